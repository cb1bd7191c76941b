import PyProof.Rows.All
import Wide.All
import OpenK.AllK
import Wide.FinOn
import HandS.ForMost
import HandS.SortKw
import HandS.More
import HandS.OwnEq
import HandS.Keys
import KE.SortKeyHeap
import HandS.IsInst
import HandS.TupAny
import HandS.Wide
import HandS.ClsMeth
import HandS.Star
import HandS.CallLocal
import HandS.Codes
import HandS.HeadEnd
import PyProof.ReprRoads
import KE.GoesMore
import HandS.Zip
import HandS.Walk
import HandS.MakeKwOnly
import KE.KStar
import HandS.Style
import HandS.Conv
import HandS.SetFor
import HandS.SetTxt0
import HandS.Strs
import HandS.ExcField
import HandS.ExcIs
import HandS.ExcInit
import KE.KExcIs
import HandS.ForExc
import HandS.ListEq
import HandS.Deep
import HandS.Head0
import HandS.Head1
import HandS.Head2
import HandS.HeadHook1
import HandS.HeadHook2
import HandS.HeadNt
import KE.SortData
import HandS.Dict
import HandS.DictTup
import HandS.DictEq
import PyProof.DictMoreH
import KE.KDictZip
import HandS.Property
import HandS.TupLen
import HandS.TupMul
import PySem.Challenge.RW_speaklast_k14_whole_steps_tell_made_rows
set_option Elab.async false
set_option linter.all false
set_option maxRecDepth 100000
set_option maxHeartbeats 2000000
namespace Spk
open PySem PySem.Spec PyProof.Rows PySem.W L2

/-! ## sorted(xs, key=f), f a def of the program that keeps an L2 promise -/
theorem heap_without (h : Heap) (k : Addr) : ∃ g : Heap, g.get? k = none ∧ ∀ b, b ≠ k → g.get? b = h.get? b := by
  by_cases hk : k < h.objs.size
  · refine ⟨{ h with objs := h.objs.set k ⟨.none, none, .freed, #[]⟩ hk }, ?_, fun b hb => ?_⟩
    · unfold Heap.get?
      simp
    · unfold Heap.get?
      simp only [Array.getElem?_set, if_neg (Ne.symm hb)]
  · refine ⟨h, ?_, fun _ _ => rfl⟩
    unfold Heap.get?
    rw [Array.getElem?_eq_none (Nat.le_of_not_lt hk)]

mutual
theorem dp_same {K : Frag} {H H' : Hp} (e : Same H H') : ∀ (d : PyData) (v : V), Dp K H v d → Dp K H' v d
  | .none, _, h => by cases h; exact .non
  | .bool b, _, h => by cases h; exact .bl b
  | .int i, _, h => by cases h; exact .int i
  | .str x, _, h => by cases h; exact .str x
  | .list ds, _, h => by
    cases h with
    | lst s a => exact .lst (SqL.ext s e) (dps_same e ds _ a)
  | .tuple ds, _, h => by
    cases h with
    | tup s a => exact .tup (SqT.ext s e) (dps_same e ds _ a)
  | .dict _, _, h => by cases h
theorem dps_same {K : Frag} {H H' : Hp} (e : Same H H') : ∀ (ds : List PyData) (vs : List V), DpAll K H vs ds → DpAll K H' vs ds
  | [], _, h => by cases h; exact .nil
  | d :: ds, _, h => by
    cases h with
    | cons a b => exact .cons (dp_same e d _ a) (dps_same e ds _ b)
end

/-- a def that keeps a promise, called somewhere below the running body -/
theorem call_at {X : Cx} {n : Nat} {f : Addr} {sp : Sp} (F : FnR X.prog X.w X.K X.mg X.base CX0 n f sp) {A' : Around} (sb : Sub X n A') {pins : List (Addr × Obj)} {s : Shared} {σ : L2.St} {H : Hp} (I : Inv X pins σ H s)
    {vs : List V} {us : List Value} {Q : VK} {E : Value → Shared → Prop} (r : Vals vs us) (h : sp vs H Q E0) : wpAny (model X.prog X.w) A' (call (.ref f) us) (EP X pins σ Q) E s := by
  have e0 : Env0 X.prog X.w X.K X.mg X.base A' X.stack s H := by
    have e := I.env0
    exact ⟨by rw [sb.fr]; exact e.frames, e.mod, e.bs, e.bsz, e.funs, e.frf, e.hok, e.bare⟩
  refine wpAny_call (codeAny_mono (F A' X.stack s H us vs Q E0 sb.room e0 r h) fun r s' hq => ?_)
  cases r with
  | error e => exact False.elim hq
  | ok fl =>
    cases fl with
    | ret w => exact I.after hq
    | next => exact False.elim hq
    | brk => exact False.elim hq
    | cont => exact False.elim hq

/-- the keys told so far -/
def KeysIn (K : Frag) (H : Hp) : List Value → List PyData → Prop := EachIs fun u d => ∃ v, RelV v u ∧ Dp K H v d

structure KeyLoop (X : Cx) (pins : List (Addr × Obj)) (σ : L2.St) (H : Hp) (a kS : Addr) (e1 : Nat) (kz : List PyData) (i : Nat) (s' : Shared) : Prop where
  ex : ∃ (H' : Hp) (kA : Array Value) (e : Nat), Inv X pins σ H' s' ∧ Same H H' ∧ FpOk X pins H' a ∧ FpOk X pins H' kS ∧ s'.heap.get? kS = some (seqObj "list" kA e) ∧
    s'.heap.get? a = some (seqObj "list" #[] e1) ∧ KeysIn X.K H' kA.toList (kz.take i)

theorem key_turn {X : Cx} {n : Nat} {f : Addr} {sp : Sp} (F : FnR X.prog X.w X.K X.mg X.base CX0 n f sp) {A' : Around} (sb : Sub X n A') {pins : List (Addr × Obj)} {σ : L2.St} {H : Hp} {a kS : Addr} {e1 : Nat} {kz : List PyData} {i : Nat} {s' : Shared}
    (hka : kS ≠ a) {x : V} {u : Value} {d : PyData} (ru : RelV x u) (hd : kz[i]? = some d) (turn : ∀ H', Same H H' → sp [x] H' (fun v H'' => Same H' H'' ∧ Dp X.K H'' v d) E0) (J : KeyLoop X pins σ H a kS e1 kz i s') {E : Value → Shared → Prop} :
    wpAny (model X.prog X.w) A' (call (.ref f) [u]) (fun v s'' => ∃ (kA : Array Value) (e : Nat), s''.heap.get? kS = some (seqObj "list" kA e) ∧ kA.size ≤ i ∧
      ∀ h' : Heap, (∀ b o, b ≠ kS → s''.heap.get? b = some o → h'.get? b = some o) → (∃ e', h'.get? kS = some (seqObj "list" (kA.push v) e')) → KeyLoop X pins σ H a kS e1 kz (i + 1) { s'' with heap := h' }) E s' := by
  obtain ⟨H', kA, e, I, sm, fa, fk, nk, na, ks⟩ := J.ex
  have Ip := I.pinned (fp := [a, kS]) (fun b hb => by
      rcases List.mem_cons.mp hb with rfl | hb
      · exact fa
      · rw [List.mem_singleton.mp hb]; exact fk) (fun b hb => by
      rcases List.mem_cons.mp hb with rfl | hb
      · exact ⟨_, na, fun v z => nomatch z⟩
      · rw [List.mem_singleton.mp hb]; exact ⟨_, nk, fun v z => nomatch z⟩)
  refine wpAny_mono (call_at F sb Ip (.cons ru .nil) (turn H' sm)) (fun v s'' he => ?_) fun _ _ z => z
  obtain ⟨w, H2, I2, rw2, sm2, dp⟩ := he
  have pa := I2.pin (a, _) (List.mem_append_right _ (List.mem_append_right _ (mem_pinsAt (by simp) na)))
  have pk := I2.pin (kS, _) (List.mem_append_right _ (List.mem_append_right _ (mem_pinsAt (by simp) nk)))
  have I3 := I2.unpinned
  have hsz : kA.size ≤ i := by
    have h1 := ks.length
    rw [Array.length_toList, List.length_take] at h1
    omega
  have fk2 : FpOk X pins H2 kS := ⟨pk.2.1, fk.2⟩
  have fa2 : FpOk X pins H2 a := ⟨pa.2.1, fa.2⟩
  refine ⟨kA, e, pk.1, hsz, fun h' keep ⟨e', hk'⟩ => ⟨⟨H2, kA.push v, e', ?_, fun b o q => sm2 b o (sm b o q), fa2, fk2, hk', keep a _ (Ne.symm hka) pa.1, ?_⟩⟩⟩
  · exact I3.turnedL (t' := s''.toks) (ch := [kS]) (fun b o hb q => keep b o (by simpa using hb) q) (fun b hb => by rw [List.mem_singleton.mp hb]; exact fk2)
  · have ek : kz.take (i + 1) = kz.take i ++ [d] := by rw [List.take_add_one, hd]; simp
    have ea : (kA.push v).toList = kA.toList ++ [v] := by simp
    rw [ea, ek]
    unfold KeysIn
    refine each_snoc ⟨w, rw2, dp⟩ ?_
    exact EachIs.mono (fun u d ⟨z, rz, dz⟩ => ⟨z, rz, dp_same sm2 d z dz⟩) ks

/-- the items in the order of their keys -/
def byKeys (xs : List V) (kz : List PyData) : List V := ((xs.zip kz).mergeSort (dataLe false (·.2))).map (·.1)

theorem each_vals : ∀ {vs : List Value} {bs : List (V × PyData)}, EachIs (fun u (b : V × PyData) => RelV b.1 u) vs bs → Vals (bs.map (·.1)) vs := by
  intro vs bs h
  induction h with
  | nil => exact .nil
  | cons r _ ih => exact .cons r ih
theorem each_zip : ∀ {xs : List V} {vs : List Value} {kz : List PyData}, Vals xs vs → kz.length = xs.length → EachIs (fun u (b : V × PyData) => RelV b.1 u) vs (xs.zip kz)
  | _, _, [], .nil, _ => .nil
  | _, _, d :: kz, .cons r t, h => .cons r (each_zip t (by simpa using h))
  | _, _, [], .cons _ _, h => by simp at h
  | _, _, _ :: _, .nil, h => by simp at h

theorem sort_rest {X : Cx} {n : Nat} {f : Addr} {sp : Sp} (F : FnR X.prog X.w X.K X.mg X.base CX0 n f sp) {A' : Around} (sb : Sub X n A') {pins : List (Addr × Obj)} {σ : L2.St} {H : Hp} {a kS : Addr} {e1 : Nat} {kz : List PyData} {s : Shared} {xs : List V} {vs : List Value}
    (hka : kS ≠ a) (r : Vals xs vs) (hlen : kz.length = xs.length) (hZ : xs.length ≤ sizeLine) (hal : AllAlike kz) (hsk : Sortable kz) (hdep : ∀ d, d ∈ kz → A'.units + d.depth < cLine)
    (turn : ∀ (i : Nat) x d, xs[i]? = some x → kz[i]? = some d → ∀ H', Same H H' → sp [x] H' (fun v H'' => Same H' H'' ∧ Dp X.K H'' v d) E0)
    (J : KeyLoop X pins σ H a kS e1 kz 0 s) {P : PySem.Fin → Shared → Prop} {E : Value → Shared → Prop}
    (q : ∀ (H' : Hp) (s' : Shared) (out : List Value) (c : Nat), Inv X pins σ H' s' → Same H H' → FpOk X pins H' a → s'.heap.get? a = some (seqObj "list" out.toArray c) → Vals (byKeys xs kz) out → P (.done (.ret .none)) s') :
    wpAny (model X.prog X.w) A' (ksk_rest a (.ref f) false vs.toArray e1 (.ref kS)) P E s := by
  have hvl : vs.length = xs.length := r.length.symm
  unfold ksk_rest
  refine wpAny_bind (wpAny_rule ?_)
  rw [← Array.forIn_toList]
  refine wpAny_bind (ksk_fold (fun i s' => KeyLoop X pins σ H a kS e1 kz i s') vs 0 s J ?step ?done)
  case step =>
    intro j u s' hu J'
    simp only [Nat.zero_add] at J' ⊢
    have hj : j < vs.length := (List.getElem?_eq_some_iff.mp hu).1
    have hjx : j < xs.length := by omega
    obtain ⟨u', hu', ru⟩ := r.get (i := j) (List.getElem?_eq_getElem hjx)
    rw [hu] at hu'
    cases hu'
    have hjk : j < kz.length := by omega
    refine wpAny_bind (wpAny_attempt (wpAny_mono (key_turn F sb hka ru (List.getElem?_eq_getElem hjk) (turn j _ _ (List.getElem?_eq_getElem hjx) (List.getElem?_eq_getElem hjk)) J') (fun v s'' he => ?_) fun _ _ hF => hF))
    obtain ⟨kA, e, nk, hs, go⟩ := he
    try dsimp only
    have s1 := Heap.SameBut.update s''.heap kS (Obj.mapSeq (·.push v))
    have hks : kA.size ≤ sizeLine := by omega
    refine wpAny_bind (listUpdate_at nk rfl ?_ hks (Nat.le_trans (Nat.le_of_eq (Array.size_push ..)) (Nat.succ_le_succ hks)))
    exact wpAny_pure ⟨rfl, go _ (fun b o hb z => (s1.2 b hb).trans z) ⟨_, get?_update_seq nk (·.push v)⟩⟩
  case done =>
    intro s' J'
    obtain ⟨H', kA, e, I, sm, fa, fk, nk, na, ks⟩ := J'.ex
    rw [Nat.zero_add, hvl, ← hlen, List.take_length] at ks
    have hk' : EachIs (fun v k => ∃ as, Reads s'.heap v k as) kA.toList kz := EachIs.mono (fun u d ⟨z, rz, dz⟩ => Dp.reads I d z u dz rz) ks
    have hsz : kA.size = vs.length := by
      have h1 := hk'.length
      rw [Array.length_toList] at h1
      omega
    refine wpAny_bind (listItems_at nk rfl ?_)
    obtain ⟨g, g0, g1⟩ := heap_without s'.heap kS
    have kp : KeepsBut a g s'.heap := fun b o _ z => by
      by_cases hb : b = kS
      · rw [hb, g0] at z; cases z
      · rw [← g1 b hb]; exact z
    refine keyH_end (κ := dataKind s'.heap kz) (h₁ := g) kp g0 nk na hka (SortsAt.data hk' hal hsk hdep) hsz (by omega) fun h3 tk3 c k3 n3 => ?_
    have keep : ∀ b o, b ∉ [a, kS] → s'.heap.get? b = some o → h3.get? b = some o := fun b o hb z => by
      simp only [List.mem_cons, List.not_mem_nil, or_false, not_or] at hb
      exact k3 b o hb.1 (by rw [g1 b hb.2]; exact z)
    refine q H' _ _ c (I.turnedL (ch := [a, kS]) keep (fun b hb => ?_)) sm fa n3 ?_
    · rcases List.mem_cons.mp hb with rfl | hb
      · exact fa
      · rw [List.mem_singleton.mp hb]; exact fk
    · have ko : KeyedOut false ((xs.zip kz).map (·.2)) vs (sortVals (dataKind s'.heap kz) false kA.toList vs) := by
        rw [List.map_snd_zip (by omega)]
        exact ⟨s'.heap, kA.toList, hal, rfl, hk'⟩
      exact each_vals (keyedOut_each (·.2) ko (each_zip r hlen))

theorem sort_tree {X : Cx} {n : Nat} {f : Addr} {sp : Sp} (F : FnR X.prog X.w X.K X.mg X.base CX0 n f sp) {A' : Around} (sb : Sub X n A') {pins : List (Addr × Obj)} {σ : L2.St} {H : Hp} {kz : List PyData} {s : Shared} {xs : List V} {vs : List Value}
    (I : Inv X pins σ H s) (r : Vals xs vs) (hlen : kz.length = xs.length) (hZ : xs.length ≤ sizeLine) (hal : AllAlike kz) (hsk : Sortable kz) (hdep : ∀ d, d ∈ kz → A'.units + d.depth < cLine)
    (turn : ∀ (i : Nat) x d, xs[i]? = some x → kz[i]? = some d → ∀ H', Same H H' → sp [x] H' (fun v H'' => Same H' H'' ∧ Dp X.K H'' v d) E0)
    {P : PySem.Fin → Shared → Prop} {E : Value → Shared → Prop}
    (q : ∀ (H' : Hp) (s' : Shared), Inv X pins σ (upd H' s.heap.objs.size (.lst (byKeys xs kz))) s' → Same H H' → H' s.heap.objs.size = none → P (.done (.ret .none)) s') :
    wpAny (model X.prog X.w) A' (ksk_tree s.heap.objs.size (.ref f) false) P E { s with heap := s.heap.push (seqObj "list" vs.toArray 0) } := by
  have hvl : vs.length = xs.length := r.length.symm
  have hvz : vs.toArray.size ≤ sizeLine := by rw [List.size_toArray]; omega
  have ho : (s.heap.push (seqObj "list" vs.toArray 0)).get? s.heap.objs.size = some (seqObj "list" vs.toArray 0) := Heap.get?_push_size _ rfl
  have s1 := Heap.SameBut.update (s.heap.push (seqObj "list" vs.toArray 0)) s.heap.objs.size (Obj.mapSeq fun _ => (#[] : Array Value))
  obtain ⟨e1, ho1⟩ : ∃ e1, ((s.heap.push (seqObj "list" vs.toArray 0)).update s.heap.objs.size (Obj.mapSeq fun _ => (#[] : Array Value))).get? s.heap.objs.size = some (seqObj "list" #[] e1) :=
    ⟨_, get?_update_seq ho fun _ => #[]⟩
  have hk : (((s.heap.push (seqObj "list" vs.toArray 0)).update s.heap.objs.size (Obj.mapSeq fun _ => (#[] : Array Value))).push (seqObj "tuple" vs.toArray 0)).objs.size = s.heap.objs.size + 2 := by
    rw [size_push', Heap.size_update, size_push']
  have Ha : H s.heap.objs.size = none := I.hok.fresh (Nat.le_refl _)
  have Hk : H (s.heap.objs.size + 2) = none := I.hok.fresh (Nat.le_add_right _ _)
  unfold ksk_tree
  refine wpAny_bind (listItems_at ho rfl ?_)
  refine wpAny_bind (listUpdate_at ho rfl ?_ hvz (Nat.zero_le _))
  refine wpAny_bind (seqEpoch_at ho1 rfl ?_)
  refine wpAny_bind (wpAny_newTuple ?_ (by show vs.length ≤ _; omega))
  refine wpAny_bind (wpAny_newList ?_ (Nat.zero_le _))
  refine wpAny_holding ?_
  rw [hk]
  refine sort_rest F sb (pins := pins) (σ := σ) (H := H) (a := s.heap.objs.size) (kS := s.heap.objs.size + 2) (Nat.ne_of_gt (Nat.lt_add_of_pos_right (by decide))) r hlen hZ hal hsk hdep turn ⟨H, #[], 0, ?_, Same.refl H, I.fpOk (Nat.le_refl _) Ha, I.fpOk (Nat.le_add_right _ _) Hk, ?_, ?_, ?_⟩ ?_
  · exact I.kept (t' := s.toks) fun b o e => by
      refine Heap.get?_push_of_some _ (Heap.get?_push_of_some _ ?_)
      rw [s1.2 b (Nat.ne_of_lt (Heap.lt_size e))]
      exact Heap.get?_push_of_some _ e
  · have := Heap.get?_push_size (((s.heap.push (seqObj "list" vs.toArray 0)).update s.heap.objs.size (Obj.mapSeq fun _ => (#[] : Array Value))).push (seqObj "tuple" vs.toArray 0)) (o := seqObj "list" #[] 0) rfl
    rw [hk] at this
    exact this
  · exact Heap.get?_push_of_some _ (Heap.get?_push_of_some _ ho1)
  · rw [List.take_zero]
    exact EachIs.nil
  · intro H' s' out c I' sm fa na ro
    refine q H' s' ?_ sm fa.1
    have z : (byKeys xs kz).length ≤ sizeLine := by
      unfold byKeys
      rw [List.length_map, List.length_mergeSort, List.length_zip]
      omega
    exact I'.take (it := s.heap.objs.size) (t' := s'.toks) (fun b ob _ e => e) fa ⟨z, out, c, ro, na⟩

/-- sorted(xs, key=f), xs a list or a tuple: what it asks -/
def rSortKey (K : Frag) (f : Addr) (sp : Sp) : List V → List V → Hp → VK → Prop := fun vs zs H Q => ∃ (l : Addr) (xs : List V) (kz : List PyData), vs = [V.ref l] ∧ zs = [V.ref f] ∧ (SqL K H l xs ∨ SqT K H l xs) ∧
  kz.length = xs.length ∧ AllAlike kz ∧ Sortable kz ∧ (∀ d, d ∈ kz → d.depth ≤ 100) ∧
  (∀ (i : Nat) x d, xs[i]? = some x → kz[i]? = some d → ∀ H', Same H H' → sp [x] H' (fun v H'' => Same H' H'' ∧ Dp K H'' v d) E0) ∧
  ∀ (H' : Hp) (p : Addr), Same H H' → H' p = none → Q (.ref p) (upd H' p (.lst (byKeys xs kz)))

theorem cr_sortKey {X : Cx} {n : Nat} {f : Addr} {sp : Sp} (F : FnR X.prog X.w X.K X.mg X.base CX0 n f sp) (hr : Room (n + 2) X.A) : CallRK X (.builtin "sorted") [Str.ofString "key"] (rSortKey X.K f sp) := by
  intro pins s σ H vs zs us ws Q I r1 r2 h
  obtain ⟨l, xs, kz, rfl, rfl, hl, hlen, hal, hsk, hdep, turn, q⟩ := h
  obtain ⟨u, rfl, ru⟩ := r1.one
  obtain ⟨y, rfl, ry⟩ := r2.one
  cases ru
  cases ry
  show wpAny (model X.prog X.w) X.A (call (.builtin "sorted") [.ref l] [(Str.ofString "key", .ref f)]) (EP X pins σ Q) X.xe s
  have sb : Sub X n X.A.in1.in1 := Sub.in1 (Sub.in1 ⟨hr, rfl⟩)
  obtain ⟨T, o, its, k, hT, ho, hc, hd, r, z⟩ : ∃ (T : String) (o : Obj) (its : List Value) (k : Nat), (T = "list" ∨ T = "tuple") ∧ s.heap.get? l = some o ∧ o.cls = .type T ∧ o.data = .seq its.toArray k ∧ Vals xs its ∧ xs.length ≤ sizeLine := by
    rcases hl with hl | hl
    · obtain ⟨its, r, ⟨o, k, ho, hc, _, hd⟩, z⟩ := I.list hl
      exact ⟨"list", o, its, k, .inl rfl, ho, hc, hd, r, z⟩
    · obtain ⟨its, r, ⟨o, ho, hc, k, hd⟩, z⟩ := I.tuple hl
      exact ⟨"tuple", o, its, k, .inr rfl, ho, hc, hd, r, z⟩
  have hsz : its.length ≤ sizeLine := by rw [← r.length]; exact z
  refine call_function_entry_kw kind_sorted plain_sorted entry_sorted (ksk_s1 _ _) ?_
  unfold Builtin.«sorted»
  refine wpAny_bind (m := checkCount "sorted" 1 1 _) (wpAny_pure ?_)
  refine wpAny_bind (wpAny_collect_seq l hT ho hc hd (fun h' hk => ?_) (by rw [List.size_toArray]; exact hsz))
  have I1 : Inv X pins σ H { s with heap := h' } := I.kept (t' := s.toks) hk
  refine wpAny_bind (wpAny_newList ?_ hsz)
  refine wpAny_bind (wpAny_holding (wpAny_call_entry_kw slot_list_sort ⟨_, Heap.get?_push_size h' rfl, rfl⟩ entry_list_sort ?body (ksk_l1 _ _)))
  case body =>
    rw [ksk_t1]
    refine sort_tree F (s := { s with heap := h' }) sb I1 r hlen z hal hsk (fun d hd => ?_) turn fun H' s' J sm hn => ?_
    · have h1 := hr.un
      have h2 := hdep d hd
      show X.A.units + 1 + 1 + d.depth < cLine
      omega
    · exact ⟨.none, rfl, wpAny_pure ⟨_, rfl, ⟨V.ref h'.objs.size, _, J, rfl, q H' _ sm hn⟩⟩⟩
end Spk

set_option Elab.async false
set_option linter.all false
set_option maxRecDepth 100000
set_option maxHeartbeats 2000000
namespace Spk
open PySem PySem.Spec PyProof.Rows PySem.W L2

/-! ## operators of a class of the program's own -/
section
variable {X : Cx} {n : Nat} {C f : Addr} {sp : Sp}

theorem relR (a : Addr) : RelV (.ref a) (.ref a) := rfl
theorem relB (b : Bool) : RelV (.bl b) (.bool b) := rfl
theorem rel_back {w : V} {r : Value} {Q : Value → Shared → Prop} {s' : Shared} (h : RelV w r) (q : Q r s') : PySem.W.CmpBack Q r s' := by
  cases w with
  | non => cases h; exact q
  | bl b => cases h; exact q
  | int i => obtain ⟨t, rfl⟩ := h; exact q
  | str x => obtain ⟨t, rfl⟩ := h; exact q
  | byt x => obtain ⟨t, rfl⟩ := h; exact q
  | flt x => obtain ⟨t, rfl⟩ := h; exact q
  | ref a => cases h; exact q
  | ty n => cases h; exact q
theorem sub0 {k : Nat} (hr : Room k X.A) : Sub X k X.A := ⟨hr, rfl⟩

/-- an instance as the library's rules want it -/
theorem inst_of {pins : List (Addr × Obj)} {s : Shared} {σ : L2.St} {H : Hp} {a dx : Addr} {fs : List (Str × V)} (I : Inv X pins σ H s) (h : H a = some (.ins C dx fs)) :
    ∃ od, InstAt s.heap a (instObj C dx) C (some od) := by
  obtain ⟨mA, O, _⟩ := ins_get I.hok h
  obtain ⟨od, J, _⟩ := O.look
  exact ⟨od, J⟩

/-- a op b, both instances of C, by C's method -/
def rBin (C : Addr) (sp : Sp) : R2 := fun x y H Q => ∃ a b dx dy fs gs, x = .ref a ∧ y = .ref b ∧ H a = some (.ins C dx fs) ∧ H b = some (.ins C dy gs) ∧ sp [.ref a, .ref b] H Q E0
theorem op_own {op : Operator} (F : FnR X.prog X.w X.K X.mg X.base CX0 n f sp) (hr : Room n X.A) (hc : selfFirst X.K C = true) (hs : findIn X.K (.ref C) (PySem.dunder op.info.2) = some (some (.ref f))) (hf : isFn X.K (.ref f) = true) :
    OpR X (binaryOp op) (rBin C sp) := by
  intro pins s σ H x y v u Q I rx ry h
  obtain ⟨a, b, dx, dy, fs, gs, rfl, rfl, ha, hb, q⟩ := h
  cases rx
  cases ry
  obtain ⟨oa, ja⟩ := inst_of I ha
  obtain ⟨ob, jb⟩ := inst_of I hb
  obtain ⟨m, hF⟩ := I.fr
  refine binop_K hF I.ok.mod.kin ja jb.type hc hs hf ?_
  refine wpAny_mono (call_at F (sub0 hr) I (.cons (relR _) (.cons (relR _) .nil)) q) (fun r s' z => ?_) fun _ _ z => z
  obtain ⟨w, H', I', rw', q'⟩ := id z
  exact rel_back rw' z

/-- ~a -/
def rUno (C : Addr) (sp : Sp) : V → Hp → VK → Prop := fun x H Q => ∃ a dx fs, x = .ref a ∧ H a = some (.ins C dx fs) ∧ sp [.ref a] H Q E0
theorem un_own (F : FnR X.prog X.w X.K X.mg X.base CX0 n f sp) (hr : Room n X.A) (hs : findIn X.K (.ref C) "__invert__" = some (some (.ref f))) (hf : isFn X.K (.ref f) = true) :
    UnR X (unaryOp .Invert) (rUno C sp) := by
  intro pins s σ H x v Q I rx h
  obtain ⟨a, dx, fs, rfl, ha, q⟩ := h
  cases rx
  obtain ⟨oa, ja⟩ := inst_of I ha
  obtain ⟨m, hF⟩ := I.fr
  exact ksp_inv hF I.ok.mod.kin ja hs hf (call_at F (sub0 hr) I (.cons (relR _) .nil) q)

/-- x in a, x not in a -/
def rInO (C : Addr) (sp : Sp) (neg : Bool) : R2 := fun x y H Q => ∃ b dy gs, y = .ref b ∧ H b = some (.ins C dy gs) ∧ sp [.ref b, x] H (fun v H' => ∃ k, v = .bl k ∧ Q (.bl (if neg then !k else k)) H') E0
theorem op_inO (F : FnR X.prog X.w X.K X.mg X.base CX0 n f sp) (hr : Room n X.A) (hs : findIn X.K (.ref C) "__contains__" = some (some (.ref f))) (hf : isFn X.K (.ref f) = true) :
    OpR X (compareOp .In) (rInO C sp false) := by
  intro pins s σ H x y v u Q I rx ry h
  obtain ⟨b, dy, gs, rfl, hb, q⟩ := h
  cases ry
  obtain ⟨ob, jb⟩ := inst_of I hb
  obtain ⟨m, hF⟩ := I.fr
  refine in_K hF I.ok.mod.kin jb hs hf ?_
  refine wpAny_mono (call_at F (sub0 hr) I (.cons (relR _) (.cons rx .nil)) q) (fun r s' z => ?_) fun _ _ z => z
  obtain ⟨w, H', I', rw', k, rfl, q'⟩ := z
  cases rw'
  exact wpAny_truthy_bool ⟨_, H', I', relB _, q'⟩
theorem op_notInO (F : FnR X.prog X.w X.K X.mg X.base CX0 n f sp) (hr : Room n X.A) (hs : findIn X.K (.ref C) "__contains__" = some (some (.ref f))) (hf : isFn X.K (.ref f) = true) :
    OpR X (compareOp .NotIn) (rInO C sp true) := by
  intro pins s σ H x y v u Q I rx ry h
  obtain ⟨b, dy, gs, rfl, hb, q⟩ := h
  cases ry
  obtain ⟨ob, jb⟩ := inst_of I hb
  obtain ⟨m, hF⟩ := I.fr
  refine notIn_K hF I.ok.mod.kin jb hs hf ?_
  refine wpAny_mono (call_at F (sub0 hr) I (.cons (relR _) (.cons rx .nil)) q) (fun r s' z => ?_) fun _ _ z => z
  obtain ⟨w, H', I', rw', k, rfl, q'⟩ := z
  cases rw'
  exact wpAny_truthy_bool ⟨_, H', I', relB _, q'⟩

/-- a == y, a an instance of C with its own ==, y anything of a known type that is no subclass of C -/
def rEqO (K : Frag) (C : Addr) (sp : Sp) : R2 := fun x y H Q => ∃ a dx fs t, x = .ref a ∧ H a = some (.ins C dx fs) ∧ TyX K H y t ∧ notFirst K C t = true ∧ sp [.ref a, y] H (fun v H' => ∃ k, v = .bl k ∧ Q (.bl k) H') E0
theorem op_eqO (F : FnR X.prog X.w X.K X.mg X.base CX0 n f sp) (hr : Room n X.A) (hs : findIn X.K (.ref C) "__eq__" = some (some (.ref f))) (hf : isFn X.K (.ref f) = true) :
    OpR X (compareOp .Eq) (rEqO X.K C sp) := by
  intro pins s σ H x y v u Q I rx ry h
  obtain ⟨a, dx, fs, t, rfl, ha, ty, nf, q⟩ := h
  cases rx
  obtain ⟨oa, ja⟩ := inst_of I ha
  obtain ⟨m, hF⟩ := I.fr
  obtain ⟨P, kx, hp, _⟩ := kit_of I ry ty
  show wpAny (model X.prog X.w) X.A (richCompare .Eq (.ref a) u) (EP X pins σ Q) X.xe s
  refine cmp_K (op := .Eq) hr.units0 hF I.ok.mod.kin ja (kx.ty _ _ I.kIn hp) nf hs hf ?_
  refine wpAny_mono (call_at F (sub0 hr) I (.cons (relR _) (.cons ry .nil)) q) (fun r s' z => ?_) fun _ _ z => z
  obtain ⟨w, H', I', rw', k, rfl, q'⟩ := z
  cases rw'
  exact ⟨_, H', I', relB _, q'⟩

/-! ### a != y: object.__ne__ turns the own == round -/
theorem ifBoundB {M : Model} {A : Around} {E : Value → Shared → Prop} {s : Shared} {K : Frag} {x : Addr} {ox : Obj} {od : Option Obj} {name : Str} {id : String} {args : List Value} {Q : Option Value → Shared → Prop} (Xk : K.In s.heap) (I : InstAt s.heap x ox C od)
    (hs : findIn K (.ref C) name = some (some (.builtin id))) (hb : ∀ self, bindSpecial (.builtin id) self = pure (.builtin id, [self]))
    (h : wpAny M A (call (.builtin id) (.ref x :: args)) (fun v => Q (some v)) E s) : wpAny M A (callSpecialIfBound? (.ref x) name args) Q E s := by
  simp only [callSpecialIfBound?, bindSpecialIfBound?]
  refine wpAny_holding (wpAny_bind (wpAny_bind (wpAny_bind (I.type.here ((looks_findIn Xk hs).here ?_)))))
  simp only [hb]
  have fin : wpAny M A (call (.builtin id) ([.ref x] ++ args) >>= fun v => pure (some v)) Q E s :=
    wpAny_bind (wpAny_mono h (fun v s' z => wpAny_pure z) fun _ _ z => z)
  refine wpAny_bind (wpAny_askSetting (wpAny_ite ?_))
  split
  · exact wpAny_bind (wpAny_pure (wpAny_pure fin))
  · exact wpAny_tryCatch (wpAny_bind (wpAny_pure (wpAny_pure fin)))

theorem call_ne {pins : List (Addr × Obj)} {s : Shared} {σ : L2.St} {H : Hp} {a dx : Addr} {fs : List (Str × V)} {y : V} {u : Value} {Q : VK} {E : Value → Shared → Prop} {A : Around} (F : FnR X.prog X.w X.K X.mg X.base CX0 n f sp) (sb : Sub X (n + 1) A)
    (hs : findIn X.K (.ref C) "__eq__" = some (some (.ref f))) (hf : isFn X.K (.ref f) = true) (hob : subIn X.K (.ref C) (.type "object") = some true)
    (I : Inv X pins σ H s) (ha : H a = some (.ins C dx fs)) (ry : RelV y u) (q : sp [.ref a, y] H (fun v H' => ∃ k, v = .bl k ∧ Q (.bl (!k)) H') E0) :
    wpAny (model X.prog X.w) A (call (.builtin "object.__ne__") [.ref a, u]) (EP X pins σ fun v H' => (∃ k, v = .bl k) ∧ Q v H') E s := by
  obtain ⟨oa, ja⟩ := inst_of I ha
  have li : Looks (model X.prog X.w) s.heap (isInstance (.ref a) (.type "object")) true := ja.type.andThen (looks_subIn I.kIn hob)
  refine wpAny_call (codeAny_call_builtin PySem.F.cmp_object.ne.plain PySem.F.cmpEntry_ne (check_slot PySem.F.cmpKind_ne PySem.F.cmpSplit_ne li (PySem.F.cmpArgs_ne _ _) ?_))
  have body : wpAny (model X.prog X.w) A.in1 (Builtin.«object.__ne__» ⟨[.ref a, u], []⟩) (fun fin s' => ∃ v, fin = .done (.ret v) ∧ EP X pins σ (fun v H' => (∃ k, v = .bl k) ∧ Q v H') v s') (fun _ _ => False) s := by
    unfold Builtin.«object.__ne__»
    have hu : A.in1.units < cLine := sb.in1.room.units0
    refine wpAny_bind (wpAny_pure ?_)
    dsimp only
    refine wpAny_bind (wpAny_cRoomFor hu ?_)
    refine wpAny_bind (ifBound_K I.kIn ja hs hf (wpAny_mono (call_at F sb.in1 I (.cons (relR _) (.cons ry .nil)) q) (fun r s' z => ?_) fun _ _ z => z))
    obtain ⟨w, H', I', rw', k, rfl, q'⟩ := z
    cases rw'
    dsimp only
    refine wpAny_bind (wpAny_truthy_bool ?_)
    exact wpAny_pure ⟨_, rfl, _, H', I', relB _, ⟨_, rfl⟩, q'⟩
  refine wpAny_mono body (fun fin s' z => ?_) fun _ _ z => z.elim
  obtain ⟨v, rfl, z⟩ := z
  exact z
end
end Spk

set_option Elab.async false
set_option linter.all false
set_option maxRecDepth 100000
set_option maxHeartbeats 2000000
namespace Spk
open PySem PySem.Spec PyProof.Rows PySem.W L2
open AutoSeq1 (wpAny_loadPart')
open MeetsSeq MeetsSeq2 MeetsSeq3 SeqRoads2

/-! ## built-in == and != decline an instance of an own class -/
section
variable {prog : Program} {w : World} {x C dx : Addr}
theorem int_eq_dec (b : Int) (u : Tok) : Meets (Builtin.«int.__eq__» ⟨[.int b u, .ref x], []⟩) (fun _ R s => s.heap.get? x = some (instObj C dx) ∧ R (.ok (.ret .notImplemented)) s) :=
  .of_wp fun prog w A R s h => by obtain ⟨hp, g, d, tk, os⟩ := s; obtain ⟨hl, h⟩ := h; unfold instObj at hl; wp_walk using wpAny_loadPart' hl, wpAny_load hl; exact ⟨_, rfl, h⟩
theorem int_ne_dec (b : Int) (u : Tok) : Meets (Builtin.«int.__ne__» ⟨[.int b u, .ref x], []⟩) (fun _ R s => s.heap.get? x = some (instObj C dx) ∧ R (.ok (.ret .notImplemented)) s) :=
  .of_wp fun prog w A R s h => by obtain ⟨hp, g, d, tk, os⟩ := s; obtain ⟨hl, h⟩ := h; unfold instObj at hl; wp_walk using wpAny_loadPart' hl, wpAny_load hl; exact ⟨_, rfl, h⟩
theorem bool_eq_dec (b : Bool) : Meets (Builtin.«int.__eq__» ⟨[.bool b, .ref x], []⟩) (fun _ R s => s.heap.get? x = some (instObj C dx) ∧ R (.ok (.ret .notImplemented)) s) :=
  .of_wp fun prog w A R s h => by obtain ⟨hp, g, d, tk, os⟩ := s; obtain ⟨hl, h⟩ := h; unfold instObj at hl; wp_walk using wpAny_loadPart' hl, wpAny_load hl; exact ⟨_, rfl, h⟩
theorem bool_ne_dec (b : Bool) : Meets (Builtin.«int.__ne__» ⟨[.bool b, .ref x], []⟩) (fun _ R s => s.heap.get? x = some (instObj C dx) ∧ R (.ok (.ret .notImplemented)) s) :=
  .of_wp fun prog w A R s h => by obtain ⟨hp, g, d, tk, os⟩ := s; obtain ⟨hl, h⟩ := h; unfold instObj at hl; wp_walk using wpAny_loadPart' hl, wpAny_load hl; exact ⟨_, rfl, h⟩
theorem str_eq_dec (b : Str) (u : Tok) : Meets (Builtin.«str.__eq__» ⟨[.str b u, .ref x], []⟩) (fun _ R s => s.heap.get? x = some (instObj C dx) ∧ R (.ok (.ret .notImplemented)) s) :=
  .of_wp fun prog w A R s h => by obtain ⟨hp, g, d, tk, os⟩ := s; obtain ⟨hl, h⟩ := h; unfold instObj at hl; wp_walk using wpAny_loadPart' hl, wpAny_load hl; exact ⟨_, rfl, h⟩
theorem str_ne_dec (b : Str) (u : Tok) : Meets (Builtin.«str.__ne__» ⟨[.str b u, .ref x], []⟩) (fun _ R s => s.heap.get? x = some (instObj C dx) ∧ R (.ok (.ret .notImplemented)) s) :=
  .of_wp fun prog w A R s h => by obtain ⟨hp, g, d, tk, os⟩ := s; obtain ⟨hl, h⟩ := h; unfold instObj at hl; wp_walk using wpAny_loadPart' hl, wpAny_load hl; exact ⟨_, rfl, h⟩
end

/-- values of built-in kinds that an instance is compared with -/
inductive Odd (H : Hp) : V → String → Prop where
  | non : Odd H .non "NoneType"
  | bl (b : Bool) : Odd H (.bl b) "bool"
  | int (i : Int) : Odd H (.int i) "int"
  | str (x : Str) : Odd H (.str x) "str"
  | lst {a : Addr} {xs : List V} (h : H a = some (.lst xs)) : Odd H (.ref a) "list"
  | tup {a : Addr} {xs : List V} (h : H a = some (.tup xs)) : Odd H (.ref a) "tuple"
theorem Odd.ty {K : Frag} {H : Hp} {y : V} {T : String} (h : Odd H y T) : TyX K H y (.type T) := by
  cases h with
  | non => exact .base .non
  | bl b => exact .base (.bl b)
  | int i => exact .base (.int i)
  | str x => exact .base (.str x)
  | lst h => exact .base (.lst h)
  | tup h => exact .base (.tup h)

/-- what the text says of a class: it is over no built-in type -/
structure Bare (K : Frag) (C : Addr) : Prop where
  o : subIn K (.ref C) (.type "object") = some true
  n : subIn K (.ref C) (.type "NoneType") = some false
  b : subIn K (.ref C) (.type "bool") = some false
  i : subIn K (.ref C) (.type "int") = some false
  s : subIn K (.ref C) (.type "str") = some false
  l : subIn K (.ref C) (.type "list") = some false
  t : subIn K (.ref C) (.type "tuple") = some false
theorem Bare.odd {K : Frag} {C : Addr} {H : Hp} {y : V} {T : String} (B : Bare K C) (h : Odd H y T) : subIn K (.ref C) (.type T) = some false := by
  cases h with
  | non => exact B.n
  | bl b => exact B.b
  | int i => exact B.i
  | str x => exact B.s
  | lst h => exact B.l
  | tup h => exact B.t

section
variable {X : Cx} {pins : List (Addr × Obj)} {s : Shared} {σ : L2.St} {H : Hp} {a C dx : Addr} {fs : List (Str × V)} {y : V} {u : Value} {T : String} {A : Around} {E : Value → Shared → Prop} {Q : Option Value → Shared → Prop}
theorem list_dec {l : Addr} {T : String} {name : Str} {id : String} {B : Builtin} (I : Inv X pins σ H s) (ha : H a = some (.ins C dx fs)) (hno : subIn X.K (.ref C) (.type T) = some false) (slot : Slot T name id) (hT : s.TypeIs (.ref l) T)
    (entry : entryFor table id = some B) (args : argsOk id ⟨[.ref l, .ref a], []⟩)
    (hB : ∀ (A : Around) (P : PySem.Fin → Shared → Prop) (E : Value → Shared → Prop), Looks (model X.prog X.w) s.heap (isInstance (.ref a) (.type T)) false → P (.done (.ret .notImplemented)) s → wpAny (model X.prog X.w) A (B ⟨[.ref l, .ref a], []⟩) P E s)
    (q : Q none s) : wpAny (model X.prog X.w) A (tryCompare (.ref l) name (.ref a)) Q E s := by
  obtain ⟨oa, ja⟩ := inst_of I ha
  have li : Looks (model X.prog X.w) s.heap (isInstance (.ref a) (.type T)) false := ja.type.andThen (looks_subIn I.kIn hno)
  refine wpAny_tryCompare_declines hT slot ?_
  refine GQ.call_here slot hT entry args ?_
  exact hB _ _ _ li ⟨rfl, q⟩
theorem try_dec_eq (B : Bare X.K C) (I : Inv X pins σ H s) (ha : H a = some (.ins C dx fs)) (o : Odd H y T) (ry : RelV y u) (q : Q none s) : wpAny (model X.prog X.w) A (tryCompare u "__eq__" (.ref a)) Q E s := by
  obtain ⟨oa, ja⟩ := inst_of I ha
  cases o with
  | non =>
    cases ry
    exact wpAny_tryCompare_declines (T := "NoneType") rfl PySem.F.slot_NoneType_eq (call_gives PySem.F.slot_NoneType_eq rfl PySem.F.entry_NoneType_eq (PySem.F.args_NoneType_eq_2 _ _) (SeqAt.NoneType___eq___none_ref_0 a) (show _ ∧ _ from ⟨rfl, q⟩))
  | bl b =>
    cases ry
    exact wpAny_tryCompare_declines (T := "bool") rfl PySem.F.slot_bool_eq (call_meets PySem.F.slot_bool_eq rfl PySem.F.entry_int_eq (PySem.F.args_int_eq_2 _ _) (bool_eq_dec (C := C) (dx := dx) b) ⟨ja.at_, rfl, q⟩)
  | int i =>
    obtain ⟨t, rfl⟩ := ry
    exact wpAny_tryCompare_declines (T := "int") (typeIs_int s i t) PySem.F.slot_int_eq (call_meets PySem.F.slot_int_eq (typeIs_int s i t) PySem.F.entry_int_eq (PySem.F.args_int_eq_2 _ _) (int_eq_dec (C := C) (dx := dx) i t) ⟨ja.at_, rfl, q⟩)
  | str x =>
    obtain ⟨t, rfl⟩ := ry
    exact wpAny_tryCompare_declines (T := "str") (typeIs_str s x t) PySem.F.slot_str_eq (call_meets PySem.F.slot_str_eq (typeIs_str s x t) PySem.F.entry_str_eq (PySem.F.args_str_eq_2 _ _) (str_eq_dec (C := C) (dx := dx) x t) ⟨ja.at_, rfl, q⟩)
  | lst h =>
    cases ry
    obtain ⟨_, its, k, _, e⟩ := (show ObjOk X.prog X.w H s.heap _ (.lst _) from I.hok _ _ h)
    refine list_dec I ha B.l PySem.F.slot_list_eq ⟨_, e, rfl⟩ PySem.F.entry_list_eq (PySem.F.args_list_eq_2 _ _) (fun A P E li q => ?_) q
    obtain ⟨hp, g, d, tk, os⟩ := s
    wp_walk using li.here
    exact q
  | tup h =>
    cases ry
    obtain ⟨_, its, _, o, e, c⟩ := (show ObjOk X.prog X.w H s.heap _ (.tup _) from I.hok _ _ h)
    refine list_dec I ha B.t PySem.F.slot_tuple_eq ⟨_, e, c.1⟩ PySem.F.entry_tuple_eq (PySem.F.args_tuple_eq_2 _ _) (fun A P E li q => ?_) q
    obtain ⟨hp, g, d, tk, os⟩ := s
    wp_walk using li.here
    exact q
theorem try_dec_ne (B : Bare X.K C) (I : Inv X pins σ H s) (ha : H a = some (.ins C dx fs)) (o : Odd H y T) (ry : RelV y u) (q : Q none s) : wpAny (model X.prog X.w) A (tryCompare u "__ne__" (.ref a)) Q E s := by
  obtain ⟨oa, ja⟩ := inst_of I ha
  cases o with
  | non =>
    cases ry
    exact wpAny_tryCompare_declines (T := "NoneType") rfl PySem.F.slot_NoneType_ne (call_gives PySem.F.slot_NoneType_ne rfl PySem.F.entry_NoneType_ne (PySem.F.args_NoneType_ne_2 _ _) (SeqAt.NoneType___ne___none_ref_0 a) (show _ ∧ _ from ⟨rfl, q⟩))
  | bl b =>
    cases ry
    exact wpAny_tryCompare_declines (T := "bool") rfl PySem.F.slot_bool_ne (call_meets PySem.F.slot_bool_ne rfl PySem.F.entry_int_ne (PySem.F.args_int_ne_2 _ _) (bool_ne_dec (C := C) (dx := dx) b) ⟨ja.at_, rfl, q⟩)
  | int i =>
    obtain ⟨t, rfl⟩ := ry
    exact wpAny_tryCompare_declines (T := "int") (typeIs_int s i t) PySem.F.slot_int_ne (call_meets PySem.F.slot_int_ne (typeIs_int s i t) PySem.F.entry_int_ne (PySem.F.args_int_ne_2 _ _) (int_ne_dec (C := C) (dx := dx) i t) ⟨ja.at_, rfl, q⟩)
  | str x =>
    obtain ⟨t, rfl⟩ := ry
    exact wpAny_tryCompare_declines (T := "str") (typeIs_str s x t) PySem.F.slot_str_ne (call_meets PySem.F.slot_str_ne (typeIs_str s x t) PySem.F.entry_str_ne (PySem.F.args_str_ne_2 _ _) (str_ne_dec (C := C) (dx := dx) x t) ⟨ja.at_, rfl, q⟩)
  | lst h =>
    cases ry
    obtain ⟨_, its, k, _, e⟩ := (show ObjOk X.prog X.w H s.heap _ (.lst _) from I.hok _ _ h)
    refine list_dec I ha B.l PySem.F.slot_list_ne ⟨_, e, rfl⟩ PySem.F.entry_list_ne (PySem.F.args_list_ne_2 _ _) (fun A P E li q => ?_) q
    obtain ⟨hp, g, d, tk, os⟩ := s
    wp_walk using li.here
    exact q
  | tup h =>
    cases ry
    obtain ⟨_, its, _, o, e, c⟩ := (show ObjOk X.prog X.w H s.heap _ (.tup _) from I.hok _ _ h)
    refine list_dec I ha B.t PySem.F.slot_tuple_ne ⟨_, e, c.1⟩ PySem.F.entry_tuple_ne (PySem.F.args_tuple_ne_2 _ _) (fun A P E li q => ?_) q
    obtain ⟨hp, g, d, tk, os⟩ := s
    wp_walk using li.here
    exact q
end

/-! ### the comparison itself -/
section
variable {X : Cx} {n : Nat} {C f : Addr} {sp : Sp}
theorem rc_right {op : CmpOp} {M : Model} {A : Around} {E : Value → Shared → Prop} {s : Shared} {u b : Value} {T : String} {Q : Value → Shared → Prop} (h1 : oneThing? op u b = none) (hu : A.units < cLine)
    (lu : Looks M s.heap (typeOf u) (.type T)) (lb : Looks M s.heap (typeOf b) (.ref C)) (ls : Looks M s.heap (isSubtype (.ref C) (.type T)) false)
    (d : ∀ Q' : Option Value → Shared → Prop, Q' none s → wpAny M A (tryCompare u (cmpInfo op).2.1 b) Q' E s)
    (h : wpAny M A (tryCompare b (cmpInfo op).2.2 u) (fun r s' => ∃ v, r = some v ∧ Q v s') E s) : wpAny M A (richCompare op u b) Q E s := by
  unfold richCompare
  simp only [h1]
  refine wpAny_holding (wpAny_bind (wpAny_cRoomFor hu ?_))
  refine wpAny_bind (lu.here (wpAny_bind (lb.here ?_)))
  rw [if_pos (by simp)]
  refine wpAny_bind (ls.here ?_)
  simp only [Bool.false_eq_true, if_false]
  refine wpAny_bind (d _ ?_)
  simp only [Bool.not_false, if_true]
  refine wpAny_bind (wpAny_mono h (fun r s' z => ?_) fun _ _ z => z)
  obtain ⟨v, rfl, q⟩ := z
  exact wpAny_pure q
theorem rc_left {op : CmpOp} {M : Model} {A : Around} {E : Value → Shared → Prop} {s : Shared} {a b tb : Value} {Q : Value → Shared → Prop} (h1 : oneThing? op a b = none) (hu : A.units < cLine)
    (la : Looks M s.heap (typeOf a) (.ref C)) (lb : Looks M s.heap (typeOf b) tb) (ls : tb = .ref C ∨ Looks M s.heap (isSubtype tb (.ref C)) false)
    (h : wpAny M A (tryCompare a (cmpInfo op).2.1 b) (fun r s' => ∃ v, r = some v ∧ Q v s') E s) : wpAny M A (richCompare op a b) Q E s := by
  unfold richCompare
  simp only [h1]
  refine wpAny_holding (wpAny_bind (wpAny_cRoomFor hu ?_))
  refine wpAny_bind (la.here (wpAny_bind (lb.here ?_)))
  have go : ∀ k : Sem Bool, Looks M s.heap k false → wpAny M A (do
      let rightFirst ← k
      if rightFirst then
        if let some v ← tryCompare b (cmpInfo op).2.2 a then rule "compare.subclass-reflected-first"; return v
      if let some v ← tryCompare a (cmpInfo op).2.1 b then return v
      if !rightFirst then
        if let some v ← tryCompare b (cmpInfo op).2.2 a then return v
      match op with
      | .Eq => rule "compare.eq-identity"; return .bool (← isSame a b)
      | .NotEq => rule "compare.ne-identity"; return .bool (!(← isSame a b))
      | _ =>
        rule "compare.unsupported"
        raiseError "TypeError" s!"'{(cmpInfo op).1}' not supported between instances of '{← typeNameOf a}' and '{← typeNameOf b}'") Q E s := by
    intro k lk
    refine wpAny_bind (lk.here ?_)
    simp only [Bool.false_eq_true, if_false]
    refine wpAny_bind (wpAny_mono h (fun r s' z => ?_) fun _ _ z => z)
    obtain ⟨v, rfl, q⟩ := z
    exact wpAny_pure q
  rcases ls with rfl | ls
  · rw [if_neg (by simp)]
    exact go _ .now
  · by_cases e : (Value.ref C != tb) = true
    · rw [if_pos e]
      exact go _ ls
    · rw [if_neg e]
      exact go _ .now

theorem try_ne {pins : List (Addr × Obj)} {s : Shared} {σ : L2.St} {H : Hp} {a dx : Addr} {fs : List (Str × V)} {y : V} {u : Value} {Q : VK} {E : Value → Shared → Prop} (F : FnR X.prog X.w X.K X.mg X.base CX0 n f sp) (hr : Room (n + 1) X.A)
    (hs : findIn X.K (.ref C) "__eq__" = some (some (.ref f))) (hn : findIn X.K (.ref C) "__ne__" = some (some (.builtin "object.__ne__"))) (hf : isFn X.K (.ref f) = true) (B : Bare X.K C)
    (I : Inv X pins σ H s) (ha : H a = some (.ins C dx fs)) (ry : RelV y u) (q : sp [.ref a, y] H (fun v H' => ∃ k, v = .bl k ∧ Q (.bl (!k)) H') E0) :
    wpAny (model X.prog X.w) X.A (tryCompare (.ref a) "__ne__" u) (fun r s' => ∃ v, r = some v ∧ EP X pins σ Q v s') E s := by
  obtain ⟨oa, ja⟩ := inst_of I ha
  unfold tryCompare
  refine wpAny_bind (ifBoundB I.kIn ja hn PySem.F.cmp_object.ne.bind (wpAny_mono (call_ne F (sub0 hr) hs hf B.o I ha ry q) (fun v s' z => ?_) fun _ _ z => z))
  obtain ⟨w, H', I', rw', ⟨k, rfl⟩, q'⟩ := z
  cases rw'
  exact wpAny_pure ⟨_, rfl, _, H', I', relB _, q'⟩

/-- what the text says of a class with its own == and none of the other comparisons -/
structure OwnEq (K : Frag) (C f : Addr) : Prop where
  eq : findIn K (.ref C) "__eq__" = some (some (.ref f))
  ne : findIn K (.ref C) "__ne__" = some (some (.builtin "object.__ne__"))
  fn : isFn K (.ref f) = true
  bare : Bare K C

/-- a != y, a an instance of C -/
def rNeO (K : Frag) (C : Addr) (sp : Sp) : R2 := fun x y H Q => ∃ a dx fs t, x = .ref a ∧ H a = some (.ins C dx fs) ∧ TyX K H y t ∧ notFirst K C t = true ∧ sp [.ref a, y] H (fun v H' => ∃ k, v = .bl k ∧ Q (.bl (!k)) H') E0
theorem op_neO (F : FnR X.prog X.w X.K X.mg X.base CX0 n f sp) (hr : Room (n + 1) X.A) (O : OwnEq X.K C f) : OpR X (compareOp .NotEq) (rNeO X.K C sp) := by
  intro pins s σ H x y v u Q I rx ry h
  obtain ⟨a, dx, fs, t, rfl, ha, ty, nf, q⟩ := h
  cases rx
  obtain ⟨oa, ja⟩ := inst_of I ha
  obtain ⟨P, kx, hp, _⟩ := kit_of I ry ty
  show wpAny (model X.prog X.w) X.A (richCompare .NotEq (.ref a) u) (EP X pins σ Q) X.xe s
  refine rc_left (op := .NotEq) (C := C) (tb := t) (oneThing_ref ..) hr.units0 ja.type (kx.ty _ _ I.kIn hp) ?_ (try_ne F hr O.eq O.ne O.fn O.bare I ha ry q)
  rcases Bool.or_eq_true_iff.mp nf with e | e
  · exact .inl (beq_iff_eq.mp e)
  · exact .inr (looks_subIn I.kIn (beq_iff_eq.mp e))

/-- y == a, y != a, y of a built-in kind, a an instance of C -/
def rEqR (K : Frag) (C : Addr) (sp : Sp) : R2 := fun y x H Q => ∃ a dx fs T, x = .ref a ∧ H a = some (.ins C dx fs) ∧ Odd H y T ∧ sp [.ref a, y] H (fun v H' => ∃ k, v = .bl k ∧ Q (.bl k) H') E0
def rNeR (K : Frag) (C : Addr) (sp : Sp) : R2 := fun y x H Q => ∃ a dx fs T, x = .ref a ∧ H a = some (.ins C dx fs) ∧ Odd H y T ∧ sp [.ref a, y] H (fun v H' => ∃ k, v = .bl k ∧ Q (.bl (!k)) H') E0
theorem one_odd {op : CmpOp} {H : Hp} {y : V} {T : String} {u : Value} {a : Addr} (o : Odd H y T) (ry : RelV y u) : oneThing? op u (.ref a) = none := by
  cases o with
  | non => cases ry; rfl
  | bl b => cases ry; rfl
  | int i => obtain ⟨t, rfl⟩ := ry; rfl
  | str x => obtain ⟨t, rfl⟩ := ry; rfl
  | lst h => cases ry; exact oneThing_ref ..
  | tup h => cases ry; exact oneThing_ref ..
theorem op_eqR (F : FnR X.prog X.w X.K X.mg X.base CX0 n f sp) (hr : Room (n + 1) X.A) (O : OwnEq X.K C f) : OpR X (compareOp .Eq) (rEqR X.K C sp) := by
  intro pins s σ H y x u v Q I ry rx h
  obtain ⟨a, dx, fs, T, rfl, ha, o, q⟩ := h
  cases rx
  obtain ⟨oa, ja⟩ := inst_of I ha
  obtain ⟨P, kx, hp, _⟩ := kit_of I ry (o.ty (K := X.K))
  show wpAny (model X.prog X.w) X.A (richCompare .Eq u (.ref a)) (EP X pins σ Q) X.xe s
  refine rc_right (op := .Eq) (C := C) (T := T) (one_odd o ry) hr.units0 (kx.ty _ _ I.kIn hp) ja.type (looks_subIn I.kIn (O.bare.odd o)) (fun Q' z => try_dec_eq O.bare I ha o ry z) ?_
  unfold tryCompare
  refine wpAny_bind (ifBound_K I.kIn ja O.eq O.fn (wpAny_mono (call_at F (sub0 (hr.mono (Nat.le_succ _))) I (.cons (relR _) (.cons ry .nil)) q) (fun r s' z => ?_) fun _ _ z => z))
  obtain ⟨w, H', I', rw', k, rfl, q'⟩ := z
  cases rw'
  exact wpAny_pure ⟨_, rfl, _, H', I', relB _, q'⟩
theorem op_neR (F : FnR X.prog X.w X.K X.mg X.base CX0 n f sp) (hr : Room (n + 1) X.A) (O : OwnEq X.K C f) : OpR X (compareOp .NotEq) (rNeR X.K C sp) := by
  intro pins s σ H y x u v Q I ry rx h
  obtain ⟨a, dx, fs, T, rfl, ha, o, q⟩ := h
  cases rx
  obtain ⟨oa, ja⟩ := inst_of I ha
  obtain ⟨P, kx, hp, _⟩ := kit_of I ry (o.ty (K := X.K))
  show wpAny (model X.prog X.w) X.A (richCompare .NotEq u (.ref a)) (EP X pins σ Q) X.xe s
  exact rc_right (op := .NotEq) (C := C) (T := T) (one_odd o ry) hr.units0 (kx.ty _ _ I.kIn hp) ja.type (looks_subIn I.kIn (O.bare.odd o)) (fun Q' z => try_dec_ne O.bare I ha o ry z) (try_ne F hr O.eq O.ne O.fn O.bare I ha ry q)
end
end Spk

set_option Elab.async false
set_option linter.all false
set_option maxRecDepth 100000
set_option maxHeartbeats 2000000
namespace Spk
open PySem PySem.Spec PyProof.Rows PySem.W L2
open PySem.Sem (wp)

/-! ## bool(t) of a tuple, bool(a) and the truth of an instance by its own __bool__ -/
theorem bool_new_in {prog : Program} {w : World} (x : Value) : MeetsIn prog w (Builtin.«bool.__new__» ⟨[.type "bool", x], []⟩)
    (fun A R s => wpAny (model prog w) A.in1 (truthy x) (fun b s' => R (.ok (.ret (.bool b))) s') (fun e s' => R (.error e) s') s) := fun A R s h => by
  have f1 := F.conv_sub_bool
  obtain ⟨hp, g, d, tk, os⟩ := s
  repeat (any_goals (first | assumption | (with_reducible refine wpAny_bind (m := truthy x) (wpAny_mono h (fun b s' z => ?_) fun _ _ z => z)) | wp_step))
  all_goals first | exact ⟨_, rfl, z⟩ | exact z | skip

section
variable {X : Cx} {n : Nat} {C f : Addr} {sp : Sp}
theorem call_bool_by {A : Around} {E : Value → Shared → Prop} {s : Shared} {x : Value} {Q : Value → Shared → Prop} (h : wpAny (model X.prog X.w) A.in1.in1 (truthy x) (fun b s' => Q (.bool b) s') E s) :
    wpAny (model X.prog X.w) A (call (.type "bool") [x]) Q E s :=
  callType_newIn PySem.F.called_bool PySem.F.newNe_bool (PySem.F.typeCall_bool_1 x) (PySem.F.newCall_bool_1 x) (fun obj => PySem.F.args_object_init_2 obj x) PySem.F.entry_bool_new (bool_new_in x)
    (wpAny_mono h (fun b s' z => ⟨rfl, z⟩) fun _ _ z => z)

/-- bool(t), t a tuple -/
theorem call_boolT : CallR X (.type "bool") (fun xs H Q => ∃ (a : Addr) (zs : List V), xs = [.ref a] ∧ SqT X.K H a zs ∧ Q (.bl (!zs.isEmpty)) H) := by
  intro pins s σ H xs us Q I r h
  obtain ⟨a, zs, rfl, hq, q⟩ := h
  obtain rfl := Vals.ref1 r
  obtain ⟨its, rv, pl, hz⟩ := I.tuple hq
  have hl := line63
  have hlen := rv.length
  refine call_bool_by (truthy_tuple pl (by simp only [List.size_toArray]; omega) ?_)
  exact ⟨.bl (!zs.isEmpty), H, I.tok _, by rw [isEmpty_of rv]; rfl, q⟩

/-- the truth of an instance of C -/
def rTruO (C : Addr) (sp : Sp) : V → Hp → (Bool → Hp → Prop) → Prop := fun x H Q => ∃ a dx fs, x = .ref a ∧ H a = some (.ins C dx fs) ∧ sp [.ref a] H (fun v H' => ∃ k, v = .bl k ∧ Q k H') E0
theorem truthy_own {A : Around} {E : Value → Shared → Prop} {pins : List (Addr × Obj)} {s : Shared} {σ : L2.St} {H : Hp} {x : V} {u : Value} {Q : Bool → Hp → Prop} (F : FnR X.prog X.w X.K X.mg X.base CX0 n f sp) (sb : Sub X n A)
    (hs : findIn X.K (.ref C) "__bool__" = some (some (.ref f))) (hf : isFn X.K (.ref f) = true) (I : Inv X pins σ H s) (rx : RelV x u) (h : rTruO C sp x H Q) : wpAny (model X.prog X.w) A (truthy u) (TP X pins σ Q) E s := by
  obtain ⟨a, dx, fs, rfl, ha, q⟩ := h
  cases rx
  obtain ⟨oa, ja⟩ := inst_of I ha
  obtain ⟨m, hF⟩ := I.fr
  refine truthy_K hF I.ok.mod.kin ja hs hf (wpAny_mono (call_at F sb I (.cons (relR _) .nil) q) (fun r s' z => ?_) fun _ _ z => z)
  obtain ⟨w, H', I', rw', k, rfl, q'⟩ := z
  cases rw'
  exact ⟨H', I', q'⟩
/-- bool(a) -/
theorem call_boolO (F : FnR X.prog X.w X.K X.mg X.base CX0 n f sp) (hr : Room (n + 2) X.A) (hs : findIn X.K (.ref C) "__bool__" = some (some (.ref f))) (hf : isFn X.K (.ref f) = true) :
    CallR X (.type "bool") (fun xs H Q => ∃ x, xs = [x] ∧ rTruO C sp x H (fun k H' => Q (.bl k) H')) := by
  intro pins s σ H xs us Q I r h
  obtain ⟨x, rfl, h⟩ := h
  obtain ⟨u, rfl, ru⟩ := r.one
  refine call_bool_by (wpAny_mono (truthy_own F (Sub.in1 (Sub.in1 (sub0 hr))) hs hf I ru h) (fun b s' z => ?_) fun _ _ z => z)
  obtain ⟨H', I', q'⟩ := z
  exact ⟨_, H', I', relB _, q'⟩
end
end Spk

set_option linter.all false
namespace Spk
abbrev Stc := Option Int × Option Int
def has1 (s : Stc) (n : Int) : Bool := (match s.1 with | none => true | some l => decide (l ≤ n)) && (match s.2 with | none => true | some h => decide (n ≤ h))
def hasL (ss : List Stc) (n : Int) : Bool := ss.any fun s => has1 s n
def NE (s : Stc) : Prop := ∀ l h, s.1 = some l → s.2 = some h → l ≤ h
def Apart (a b : Stc) : Prop := ∃ h l, a.2 = some h ∧ b.1 = some l ∧ h + 1 < l
structure Canon (ps : List Stc) : Prop where
  ne : ∀ s, s ∈ ps → NE s
  ap : ps.Pairwise Apart
def touchB (hi lo : Option Int) : Bool := match lo, hi with
  | none, _ => true
  | _, none => true
  | some l, some h => decide (l ≤ h + 1)
def laterE (a b : Option Int) : Option Int := match a, b with
  | none, _ => none
  | _, none => none
  | some x, some y => some (if y > x then y else x)
def joinF (acc : List Stc) (s : Stc) : List Stc := match acc.getLast? with
  | none => acc ++ [s]
  | some p => if touchB p.2 s.1 = true then acc.dropLast ++ [(p.1, laterE p.2 s.2)] else acc ++ [s]
def lowLe (a b : Option Int) : Prop := match a, b with
  | none, _ => True
  | some _, none => False
  | some i, some j => i ≤ j
theorem has1_of {s : Stc} {n : Int} (h1 : ∀ k, s.1 = some k → k ≤ n) (h2 : ∀ k, s.2 = some k → n ≤ k) : has1 s n = true := by
  obtain ⟨l, r⟩ := s
  cases l <;> cases r <;> simp_all [has1]
theorem hasL_append (a b : List Stc) (n : Int) : hasL (a ++ b) n = (hasL a n || hasL b n) := by simp [hasL, List.any_append]
theorem hasL_one (s : Stc) (n : Int) : hasL [s] n = has1 s n := by simp [hasL]
theorem hasL_cons (s : Stc) (b : List Stc) (n : Int) : hasL (s :: b) n = (has1 s n || hasL b n) := by simp [hasL]
theorem hasL_nil (n : Int) : hasL [] n = false := rfl

theorem join_has (p s : Stc) (n : Int) (hp : NE p) (hs : NE s) (hl : lowLe p.1 s.1) (ht : touchB p.2 s.1 = true) : has1 (p.1, laterE p.2 s.2) n = (has1 p n || has1 s n) := by
  obtain ⟨pl, ph⟩ := p
  obtain ⟨sl, sh⟩ := s
  rw [Bool.eq_iff_iff]
  cases pl <;> cases ph <;> cases sl <;> cases sh <;> simp_all [has1, laterE, touchB, lowLe, NE]
  all_goals (try split)
  all_goals (try omega)
theorem join_ne (p s : Stc) (hp : NE p) : NE (p.1, laterE p.2 s.2) := by
  obtain ⟨pl, ph⟩ := p
  obtain ⟨sl, sh⟩ := s
  intro l h h1 h2
  cases ph <;> cases sh <;> simp_all [laterE]
  have := hp l _ rfl rfl
  split at h2 <;> omega
theorem notouch {p s : Stc} (h : touchB p.2 s.1 = false) : Apart p s := by
  obtain ⟨pl, ph⟩ := p
  obtain ⟨sl, sh⟩ := s
  cases ph <;> cases sl <;> simp_all [touchB, Apart]
theorem apart_trans {a p s : Stc} (h1 : Apart a p) (hp : NE p) (h2 : Apart p s) : Apart a s := by
  obtain ⟨h, l, e1, e2, q⟩ := h1
  obtain ⟨h', l', e3, e4, q'⟩ := h2
  have := hp l h' e2 e3
  exact ⟨h, l', e1, e4, by omega⟩
theorem canon_snoc {acc : List Stc} {p s : Stc} (h : Canon (acc ++ [p])) (hs : NE s) (ha : Apart p s) : Canon (acc ++ [p] ++ [s]) := by
  refine ⟨fun x hx => ?_, ?_⟩
  · rcases List.mem_append.mp hx with hx | hx
    · exact h.ne x hx
    · rw [List.mem_singleton.mp hx]; exact hs
  · refine List.pairwise_append.mpr ⟨h.ap, List.pairwise_singleton .., fun a ha' b hb => ?_⟩
    rw [List.mem_singleton.mp hb]
    rcases List.mem_append.mp ha' with q | q
    · exact apart_trans ((List.pairwise_append.mp h.ap).2.2 a q p (by simp)) (h.ne p (by simp)) ha
    · rw [List.mem_singleton.mp q]; exact ha
theorem canon_last {acc : List Stc} {p s : Stc} (h : Canon (acc ++ [p])) : Canon (acc ++ [(p.1, laterE p.2 s.2)]) := by
  refine ⟨fun x hx => ?_, ?_⟩
  · rcases List.mem_append.mp hx with hx | hx
    · exact h.ne x (List.mem_append_left _ hx)
    · rw [List.mem_singleton.mp hx]; exact join_ne p s (h.ne p (by simp))
  · refine List.pairwise_append.mpr ⟨(List.pairwise_append.mp h.ap).1, List.pairwise_singleton .., fun a ha b hb => ?_⟩
    rw [List.mem_singleton.mp hb]
    exact (List.pairwise_append.mp h.ap).2.2 a ha p (by simp)
/-- one step of the joining -/
theorem join_step {acc pre : List Stc} {s : Stc} (hc : Canon acc) (hm : ∀ n, hasL acc n = hasL pre n) (hl : ∀ a, a ∈ acc → lowLe a.1 s.1) (hs : NE s) :
    Canon (joinF acc s) ∧ (∀ n, hasL (joinF acc s) n = hasL (pre ++ [s]) n) ∧ ∀ a, a ∈ joinF acc s → a.1 = s.1 ∨ ∃ b, b ∈ acc ∧ a.1 = b.1 := by
  rcases List.eq_nil_or_concat acc with rfl | ⟨ac, p, rfl⟩
  · refine ⟨⟨fun x hx => ?_, ?_⟩, fun n => ?_, fun a ha => ?_⟩
    · have : x = s := by simpa [joinF] using hx
      rw [this]; exact hs
    · simp [joinF]
    · rw [hasL_append, ← hm n]; simp [joinF, hasL]
    · left
      have : a = s := by simpa [joinF] using ha
      rw [this]
  · simp only [List.concat_eq_append] at *
    have hg : (ac ++ [p]).getLast? = some p := by simp
    unfold joinF
    rw [hg]
    dsimp only
    by_cases ht : touchB p.2 s.1 = true
    · rw [if_pos ht, List.dropLast_concat]
      refine ⟨canon_last (s := s) hc, fun n => ?_, fun a ha => ?_⟩
      · have h1 := hm n
        rw [hasL_append, hasL_one] at h1
        rw [hasL_append, hasL_one, hasL_append, hasL_one, join_has p s n (hc.ne p (by simp)) hs (hl p (by simp)) ht, ← h1, Bool.or_assoc]
      · right
        rcases List.mem_append.mp ha with ha | ha
        · exact ⟨a, by simp [ha], rfl⟩
        · rw [List.mem_singleton.mp ha]; exact ⟨p, by simp, rfl⟩
    · rw [if_neg ht]
      have ht' : touchB p.2 s.1 = false := by simpa using ht
      refine ⟨canon_snoc hc hs (notouch ht'), fun n => ?_, fun a ha => ?_⟩
      · rw [hasL_append (ac ++ [p]) [s], hasL_append pre [s], hm n]
      · rcases List.mem_append.mp ha with ha | ha
        · right; exact ⟨a, ha, rfl⟩
        · left; rw [List.mem_singleton.mp ha]
theorem lowLe_trans {a b c : Option Int} (h1 : lowLe a b) (h2 : lowLe b c) : lowLe a c := by
  cases a <;> cases b <;> cases c <;> simp_all [lowLe]
  omega
/-- the invariant of the loop -/
structure Joins (acc pre rest : List Stc) : Prop where
  canon : Canon acc
  has : ∀ n, hasL acc n = hasL pre n
  low : ∀ a, a ∈ acc → ∀ s, s ∈ rest → lowLe a.1 s.1
theorem joins_step {acc pre rest : List Stc} {s : Stc} (h : Joins acc pre (s :: rest)) (hs : NE s) (hw : (s :: rest).Pairwise fun a b => lowLe a.1 b.1) : Joins (joinF acc s) (pre ++ [s]) rest := by
  obtain ⟨c, m, l⟩ := join_step h.canon h.has (fun a ha => h.low a ha s (by simp)) hs
  refine ⟨c, m, fun a ha t ht => ?_⟩
  have hst : lowLe s.1 t.1 := (List.pairwise_cons.mp hw).1 t ht
  rcases l a ha with e | ⟨b, hb, e⟩
  · rw [e]; exact hst
  · rw [e]; exact h.low b hb t (by simp [ht])

/-! ### one set, one list of parts -/
theorem canon_tail {s : Stc} {ps : List Stc} (h : Canon (s :: ps)) : Canon ps := ⟨fun x hx => h.ne x (by simp [hx]), (List.pairwise_cons.mp h.ap).2⟩
/-- nothing of the later parts lies at or ahead of the number behind the first one's end -/
theorem later_no {s : Stc} {ps : List Stc} (h : Canon (s :: ps)) {n e : Int} (he : s.2 = some e) (hn : n ≤ e + 1) : hasL ps n = false := by
  unfold hasL
  rw [List.any_eq_false]
  intro t ht
  obtain ⟨h', l, e1, e2, q⟩ := (List.pairwise_cons.mp h.ap).1 t ht
  rw [he] at e1
  cases e1
  simp only [has1, e2, Bool.and_eq_true, decide_eq_true_eq, not_and]
  intro h1
  omega
theorem no_later {s : Stc} {ps : List Stc} (h : Canon (s :: ps)) (he : s.2 = none) : ps = [] := by
  cases ps with
  | nil => rfl
  | cons t ps =>
    obtain ⟨h', l, e1, _⟩ := (List.pairwise_cons.mp h.ap).1 t (by simp)
    rw [he] at e1
    cases e1
/-- ahead of the first part's low end there is nothing -/
theorem ahead_no {s : Stc} {ps : List Stc} (h : Canon (s :: ps)) {n l : Int} (hl : s.1 = some l) (hn : n < l) : hasL (s :: ps) n = false := by
  rw [hasL_cons]
  have h1 : has1 s n = false := by
    simp only [has1, hl, Bool.and_eq_false_iff, decide_eq_false_iff_not]
    left
    omega
  rw [h1, Bool.false_or]
  cases e : s.2 with
  | none => rw [no_later h e]; rfl
  | some x =>
    have := h.ne s (by simp) l x hl e
    exact later_no h e (by omega)
theorem has_low {s : Stc} (h : NE s) {l : Int} (hl : s.1 = some l) : has1 s l = true := by
  cases e : s.2 with
  | none => simp [has1, hl, e]
  | some x =>
    have := h l x hl e
    simp [has1, hl, e, this]
theorem has_some {s : Stc} (h : NE s) (m : Int) : ∃ n, n ≤ m ∧ (s.1 = none → has1 s n = true) := by
  cases e : s.2 with
  | none => exact ⟨m, Int.le_refl _, fun h1 => by simp [has1, h1, e]⟩
  | some x =>
    by_cases q : m ≤ x
    · exact ⟨m, Int.le_refl _, fun h1 => by simp [has1, h1, e, q]⟩
    · exact ⟨x, by omega, fun h1 => by simp [has1, h1, e]⟩
theorem ne_has {s : Stc} (h : NE s) : ∃ n, has1 s n = true := by
  cases e : s.1 with
  | none =>
    obtain ⟨n, _, q⟩ := has_some h 0
    exact ⟨n, q e⟩
  | some l => exact ⟨l, has_low h e⟩
theorem low_same {s t : Stc} {ps qs : List Stc} (h : Canon (s :: ps)) (h' : Canon (t :: qs)) (e : ∀ n, hasL (s :: ps) n = hasL (t :: qs) n) : lowLe t.1 s.1 := by
  cases hs : s.1 with
  | none =>
    cases ht : t.1 with
    | none => trivial
    | some l =>
      obtain ⟨n, hn, q⟩ := has_some (h.ne s (by simp)) (l - 1)
      have h1 := e n
      rw [ahead_no h' ht (by omega), hasL_cons, q hs] at h1
      simp at h1
  | some a =>
    cases ht : t.1 with
    | none => trivial
    | some b =>
      by_cases q : b ≤ a
      · exact q
      · have h1 := e a
        rw [ahead_no h' ht (by omega), hasL_cons, has_low (h.ne s (by simp)) hs] at h1
        simp at h1
theorem lowLe_antisymm {a b : Option Int} (h1 : lowLe a b) (h2 : lowLe b a) : a = b := by
  cases a <;> cases b <;> simp_all [lowLe]
  omega
/-- behind the end of the first one there is a number that is not in it -/
theorem high_same {s t : Stc} {ps qs : List Stc} (h : Canon (s :: ps)) (h' : Canon (t :: qs)) (e : ∀ n, hasL (s :: ps) n = hasL (t :: qs) n) (hl : s.1 = t.1) {x : Int} (hx : s.2 = some x) : ∃ y, t.2 = some y ∧ y ≤ x := by
  have h1 := e (x + 1)
  have n1 : has1 s (x + 1) = false := by
    simp only [has1, hx, Bool.and_eq_false_iff, decide_eq_false_iff_not]
    right
    omega
  rw [hasL_cons, n1, later_no h hx (Int.le_refl _), hasL_cons] at h1
  have h2 : has1 t (x + 1) = false := by
    cases q : has1 t (x + 1) with
    | false => rfl
    | true => rw [q] at h1; simp at h1
  have low : ∀ l, t.1 = some l → l ≤ x + 1 := fun l hl' => by
    rw [← hl] at hl'
    have := h.ne s (by simp) l x hl' hx
    omega
  cases ht : t.2 with
  | none =>
    exfalso
    cases hl' : t.1 with
    | none => simp [has1, hl', ht] at h2
    | some l =>
      have := low l hl'
      simp [has1, hl', ht, this] at h2
  | some y =>
    refine ⟨y, rfl, ?_⟩
    by_cases q : y ≤ x
    · exact q
    · exfalso
      have q' : x + 1 ≤ y := by omega
      cases hl' : t.1 with
      | none => simp [has1, hl', ht, q'] at h2
      | some l =>
        have := low l hl'
        simp [has1, hl', ht, this, q'] at h2
theorem canon_unique : ∀ {ps qs : List Stc}, Canon ps → Canon qs → (∀ n, hasL ps n = hasL qs n) → ps = qs
  | [], [], _, _, _ => rfl
  | [], t :: qs, _, h', e => by
    obtain ⟨n, q⟩ := ne_has (h'.ne t (by simp))
    have := e n
    rw [hasL_cons, q] at this
    simp [hasL_nil] at this
  | s :: ps, [], h, _, e => by
    obtain ⟨n, q⟩ := ne_has (h.ne s (by simp))
    have := e n
    rw [hasL_cons, q] at this
    simp [hasL_nil] at this
  | s :: ps, t :: qs, h, h', e => by
    have hl : s.1 = t.1 := lowLe_antisymm (low_same h' h fun n => (e n).symm) (low_same h h' e)
    have hh : s.2 = t.2 := by
      cases hs : s.2 with
      | none =>
        cases ht : t.2 with
        | none => rfl
        | some y =>
          obtain ⟨z, q, _⟩ := high_same h' h (fun n => (e n).symm) hl.symm ht
          rw [hs] at q; cases q
      | some x =>
        obtain ⟨y, hy, q⟩ := high_same h h' e hl hs
        obtain ⟨z, hz, q'⟩ := high_same h' h (fun n => (e n).symm) hl.symm hy
        rw [hs] at hz
        cases hz
        rw [hy]
        congr 1
        omega
    have est : s = t := Prod.ext hl hh
    subst est
    refine congrArg _ (canon_unique (canon_tail h) (canon_tail h') fun n => ?_)
    cases hs : s.2 with
    | none => rw [no_later h hs, no_later h' hs]
    | some x =>
      by_cases q : n ≤ x + 1
      · rw [later_no h hs q, later_no h' hs q]
      · have n1 : has1 s n = false := by
          simp only [has1, hs, Bool.and_eq_false_iff, decide_eq_false_iff_not]
          right
          omega
        have := e n
        rwa [hasL_cons, hasL_cons, n1, Bool.false_or, Bool.false_or] at this

/-! ### the halving search -/
theorem search_low {ps : List Stc} (h : Canon ps) {m : Nat} {s : Stc} (hm : ps[m]? = some s) {l n : Int} (hl : s.1 = some l) (hn : n < l) {j : Nat} {t : Stc} (hj : m ≤ j) (ht : ps[j]? = some t) : has1 t n = false := by
  have hs := h.ne s (List.mem_of_getElem? hm)
  by_cases e : m = j
  · subst e
    rw [hm] at ht
    cases ht
    simp only [has1, hl, Bool.and_eq_false_iff, decide_eq_false_iff_not]
    left
    omega
  · obtain ⟨h1, h2, h3⟩ := List.getElem?_eq_some_iff.mp hm |>.elim fun a b => (⟨a, b, trivial⟩ : ∃ (a : m < ps.length) (_ : ps[m] = s), True)
    obtain ⟨g1, g2⟩ := List.getElem?_eq_some_iff.mp ht
    have := List.pairwise_iff_getElem.mp h.ap m j h1 g1 (by omega)
    rw [h2, g2] at this
    obtain ⟨x, y, e1, e2, q⟩ := this
    have := hs l x hl e1
    simp only [has1, e2, Bool.and_eq_false_iff, decide_eq_false_iff_not]
    left
    omega
theorem search_high {ps : List Stc} (h : Canon ps) {m : Nat} {s : Stc} (hm : ps[m]? = some s) {l n : Int} (hl : s.2 = some l) (hn : l < n) {j : Nat} {t : Stc} (hj : j ≤ m) (ht : ps[j]? = some t) : has1 t n = false := by
  have hs := h.ne s (List.mem_of_getElem? hm)
  by_cases e : j = m
  · subst e
    rw [hm] at ht
    cases ht
    simp only [has1, hl, Bool.and_eq_false_iff, decide_eq_false_iff_not]
    right
    omega
  · obtain ⟨h1, h2⟩ := List.getElem?_eq_some_iff.mp hm
    obtain ⟨g1, g2⟩ := List.getElem?_eq_some_iff.mp ht
    have := List.pairwise_iff_getElem.mp h.ap j m g1 h1 (by omega)
    rw [h2, g2] at this
    obtain ⟨x, y, e1, e2, q⟩ := this
    have := hs y l e2 hl
    simp only [has1, e1, Bool.and_eq_false_iff, decide_eq_false_iff_not]
    right
    omega

/-! ### the points at which two sets are looked at -/
def endsOf (s : Stc) : List Int := (match s.1 with | none => [] | some l => [l - 1, l, l + 1]) ++ (match s.2 with | none => [] | some h => [h - 1, h, h + 1])
def points (ss : List Stc) : List Int := [0, 1, -1, 10000000000000, -10000000000000] ++ ss.flatMap endsOf
/-- the cuts: the first numbers behind which something changes -/
def cutsOf (s : Stc) : List Int := (match s.1 with | none => [] | some l => [l]) ++ (match s.2 with | none => [] | some h => [h + 1])
def cuts (ss : List Stc) : List Int := ss.flatMap cutsOf
theorem cut_point {ss : List Stc} {c : Int} (h : c ∈ cuts ss) : c ∈ points ss ∧ c - 1 ∈ points ss := by
  obtain ⟨s, hs, hc⟩ := List.mem_flatMap.mp h
  have key : c ∈ endsOf s ∧ c - 1 ∈ endsOf s := by
    obtain ⟨l, r⟩ := s
    cases l <;> cases r <;> simp_all [cutsOf, endsOf] <;> omega
  exact ⟨List.mem_append_right _ (List.mem_flatMap.mpr ⟨s, hs, key.1⟩), List.mem_append_right _ (List.mem_flatMap.mpr ⟨s, hs, key.2⟩)⟩
theorem has_by_cuts {s : Stc} {n m : Int} (h : ∀ c, c ∈ cutsOf s → (c ≤ n ↔ c ≤ m)) : has1 s n = has1 s m := by
  obtain ⟨l, r⟩ := s
  rw [Bool.eq_iff_iff]
  cases l <;> cases r <;> simp_all [cutsOf, has1] <;> omega
theorem hasL_by_cuts {ss : List Stc} {n m : Int} (h : ∀ c, c ∈ cuts ss → (c ≤ n ↔ c ≤ m)) : hasL ss n = hasL ss m := by
  induction ss with
  | nil => rfl
  | cons s ss ih =>
    rw [hasL_cons, hasL_cons, has_by_cuts (s := s) fun c hc => h c (List.mem_flatMap.mpr ⟨s, by simp, hc⟩), ih fun c hc => h c ?_]
    obtain ⟨t, ht, hc⟩ := List.mem_flatMap.mp hc
    exact List.mem_flatMap.mpr ⟨t, by simp [ht], hc⟩
theorem greatest {l : List Int} {n : Int} (h : ∃ c, c ∈ l ∧ c ≤ n) : ∃ c, c ∈ l ∧ c ≤ n ∧ ∀ d, d ∈ l → d ≤ n → d ≤ c := by
  induction l with
  | nil => obtain ⟨c, hc, _⟩ := h; simp at hc
  | cons a l ih =>
    by_cases q : ∃ c, c ∈ l ∧ c ≤ n
    · obtain ⟨c, hc, hn, m⟩ := ih q
      by_cases qa : a ≤ n ∧ c ≤ a
      · refine ⟨a, by simp, qa.1, fun d hd hdn => ?_⟩
        rcases List.mem_cons.mp hd with rfl | hd
        · exact Int.le_refl _
        · have := m d hd hdn; omega
      · refine ⟨c, by simp [hc], hn, fun d hd hdn => ?_⟩
        rcases List.mem_cons.mp hd with rfl | hd
        · omega
        · exact m d hd hdn
    · obtain ⟨c, hc, hn⟩ := h
      rcases List.mem_cons.mp hc with rfl | hc
      · refine ⟨c, by simp, hn, fun d hd hdn => ?_⟩
        rcases List.mem_cons.mp hd with rfl | hd
        · exact Int.le_refl _
        · exact absurd ⟨d, hd, hdn⟩ q
      · exact absurd ⟨c, hc, hn⟩ q
theorem least {l : List Int} (h : l ≠ []) : ∃ c, c ∈ l ∧ ∀ d, d ∈ l → c ≤ d := by
  induction l with
  | nil => exact absurd rfl h
  | cons a l ih =>
    by_cases q : l = []
    · subst q
      exact ⟨a, by simp, fun d hd => by rw [List.mem_singleton.mp hd]; exact Int.le_refl _⟩
    · obtain ⟨c, hc, m⟩ := ih q
      by_cases qa : a ≤ c
      · refine ⟨a, by simp, fun d hd => ?_⟩
        rcases List.mem_cons.mp hd with rfl | hd
        · exact Int.le_refl _
        · have := m d hd; omega
      · refine ⟨c, by simp [hc], fun d hd => ?_⟩
        rcases List.mem_cons.mp hd with rfl | hd
        · omega
        · exact m d hd
/-- each number has a point that no stretch tells from it -/
theorem point_of (ss : List Stc) (n : Int) : ∃ m, m ∈ points ss ∧ ∀ c, c ∈ cuts ss → (c ≤ n ↔ c ≤ m) := by
  by_cases q : ∃ c, c ∈ cuts ss ∧ c ≤ n
  · obtain ⟨c, hc, hn, m⟩ := greatest q
    refine ⟨c, (cut_point hc).1, fun d hd => ⟨fun h => m d hd h, fun h => by omega⟩⟩
  · by_cases q0 : cuts ss = []
    · refine ⟨0, by simp [points], fun c hc => ?_⟩
      rw [q0] at hc
      simp at hc
    · obtain ⟨c, hc, m⟩ := least q0
      refine ⟨c - 1, (cut_point hc).2, fun d hd => ⟨fun h => absurd ⟨d, hd, h⟩ q, fun h => ?_⟩⟩
      have := m d hd
      omega
theorem cuts_append (a b : List Stc) : cuts (a ++ b) = cuts a ++ cuts b := by simp [cuts, List.flatMap_append]
/-- sets that agree at the points of both are the same -/
theorem agree_all {a b : List Stc} (h : ∀ m, m ∈ points (a ++ b) → hasL a m = hasL b m) (n : Int) : hasL a n = hasL b n := by
  obtain ⟨m, hm, hc⟩ := point_of (a ++ b) n
  rw [cuts_append] at hc
  rw [hasL_by_cuts (ss := a) fun c q => hc c (List.mem_append_left _ q), hasL_by_cuts (ss := b) fun c q => hc c (List.mem_append_right _ q)]
  exact h m hm
end Spk

set_option Elab.async false
set_option linter.all false
set_option maxRecDepth 100000
set_option maxHeartbeats 1000000
namespace Spk
open PySem L2

/-! ## readings by steps: one lemma a construct -/
section
variable {σ : L2.St} {H : Hp} {D : Ends} {ta tb te : TE} {Q : VK} {t u : TS} {tt uu : TT} {v x y : V} {i : Nat} {K : PySem.W.Frag}
theorem i_seq (h : t { D with nx := u D } σ H) : tSeq t u D σ H := h
theorem i_next (h : D.nx σ H) : tNext D σ H := h
theorem i_asg {g : TG} (h : te σ H fun x H1 => g x σ H1 D.nx) : tAsg te g D σ H := h
theorem i_name {P : L2.St → Hp → Prop} (h : P (σ.set i (some v)) H) : gName i v σ H P := h
theorem i_ret (h : te σ H D.rt) : tRet te D σ H := h
theorem i_drop (h : te σ H fun _ H1 => D.nx σ H1) : tDrop te D σ H := h
theorem i_ifS (h : tt σ H fun b H1 => if b = true then t D σ H1 else u D σ H1) : tIfS tt t u D σ H := h
theorem i_if (h : tt σ H fun c H1 => if c = true then ta σ H1 Q else tb σ H1 Q) : tIf tt ta tb σ H Q := h
theorem i_var (h : σ[i]? = some (some v)) (q : Q v H) : tVar i σ H Q := ⟨v, h, q⟩
theorem i_c (q : Q v H) : tC v σ H Q := q
theorem i_op {r : R2} (h : ta σ H fun x H1 => tb σ H1 fun y H2 => r x y H2 Q) : tOp r ta tb σ H Q := h
theorem i_un {r : V → Hp → VK → Prop} (h : ta σ H fun x H1 => r x H1 Q) : tUn r ta σ H Q := h
theorem i_rI0 {g : Int → Int → V} {a b : Int} (q : Q (g a b) H) : rI0 g (.int a) (.int b) H Q := ⟨a, b, rfl, rfl, q⟩
theorem i_rI {C : Int → Int → Prop} {g : Int → Int → V} {a b : Int} (hc : C a b) (q : Q (g a b) H) : rI C g (.int a) (.int b) H Q := ⟨a, b, rfl, rfl, hc, q⟩
theorem i_rU {g : Int → V} {a : Int} (q : Q (g a) H) : rU g (.int a) H Q := ⟨a, rfl, q⟩
theorem i_rEq (hs : scal x y = true) (q : Q (.bl (decide (x = y))) H) : rEq x y H Q := ⟨hs, q⟩
theorem i_rNe (hs : scal x y = true) (q : Q (.bl (!decide (x = y))) H) : rNe x y H Q := ⟨hs, q⟩
theorem i_test {P : Bool → Hp → Prop} (h : ta σ H fun x H' => ∃ k, x = .bl k ∧ P k H') : tTest ta σ H P := h
theorem i_tB {P : Bool → Hp → Prop} (h : ta σ H fun x H' => ∃ k, x = .bl k ∧ P k H') : tB ta σ H P := h
theorem i_and {P : Bool → Hp → Prop} (h : tt σ H fun c H1 => if c = true then uu σ H1 P else P false H1) : tAnd tt uu σ H P := h
theorem i_or {P : Bool → Hp → Prop} (h : tt σ H fun c H1 => if c = true then P true H1 else uu σ H1 P) : tOr tt uu σ H P := h
theorem i_not {P : Bool → Hp → Prop} (h : tt σ H fun c H1 => P (!c) H1) : tNot tt σ H P := h
theorem i_andV (h : ta σ H fun x H1 => ∃ c, x = .bl c ∧ if c = true then tb σ H1 Q else Q (.bl false) H1) : tAndV ta tb σ H Q := h
theorem i_orV (h : ta σ H fun x H1 => ∃ c, x = .bl c ∧ if c = true then Q (.bl true) H1 else tb σ H1 Q) : tOrV ta tb σ H Q := h
theorem i_notV (h : ta σ H fun x H1 => ∃ c, x = .bl c ∧ Q (.bl (!c)) H1) : tNotV ta σ H Q := h
theorem i_nil {P : List V → Hp → Prop} (h : P [] H) : tNil σ H P := h
theorem i_cons {tr : TA} {P : List V → Hp → Prop} (h : ta σ H fun x H1 => tr σ H1 fun xs H2 => P (x :: xs) H2) : tCons ta tr σ H P := h
theorem i_cb {r : List V → Hp → VK → Prop} {ts : TA} (h : ts σ H fun vs H1 => r vs H1 Q) : tCB r ts σ H Q := h
theorem i_call {sp : Sp} {E : XK} {ts : TA} (h : ts σ H fun vs H1 => sp (vs ++ []) H1 Q E) : tCall sp [] E ts σ H Q := h
theorem i_bl {c : Bool} {P : Bool → Prop} (h : P c) : ∃ k, V.bl c = .bl k ∧ P k := ⟨c, rfl, h⟩
/-- a new object: the heap behind it is only known by what stood and what is new -/
theorem i_new {o : HO} (h : ∀ p H1, Same H H1 → H p = none → H1 p = some o → Q (.ref p) H1) : ∀ p, H p = none → Q (.ref p) (upd H p o) := fun p hp =>
  h p _ (fun b u e => by rw [upd_ne (ne_of_none e hp)]; exact e) hp upd_same
theorem i_tup {ts : TA} (h : ts σ H fun xs H1 => xs.length ≤ sizeLine ∧ ∀ p, H1 p = none → Q (.ref p) (upd H1 p (.tup xs))) : tTup ts σ H Q := h
theorem i_lst {ts : TA} (h : ts σ H fun xs H1 => xs.length ≤ sizeLine ∧ ∀ p, H1 p = none → Q (.ref p) (upd H1 p (.lst xs))) : tLst ts σ H Q := h
theorem i_sz {xs : List V} {o : HO} (hn : xs.length ≤ 1000) (h : ∀ p H1, Same H H1 → H p = none → H1 p = some o → Q (.ref p) H1) : xs.length ≤ sizeLine ∧ ∀ p, H p = none → Q (.ref p) (upd H p o) :=
  ⟨Nat.le_trans hn (by decide), i_new h⟩
theorem new_heap {o : HO} {p : Addr} (hp : H p = none) : ∃ H1, upd H p o = H1 ∧ Same H H1 ∧ H1 p = some o := ⟨_, rfl, fun b u e => by rw [upd_ne (ne_of_none e hp)]; exact e, upd_same⟩
theorem size_of {n : Nat} (h : n ≤ 100000) : n ≤ sizeLine := Nat.le_trans h (by decide)
theorem size_lt {n : Nat} (h : n ≤ 100000) : n < sizeLine := Nat.lt_of_le_of_lt h (by decide)
theorem i_ixT {p : Addr} {xs : List V} {a : Int} (h : H p = some (.tup xs)) (hv : atI xs a = some v) (q : Q v H) : rIxT K (.ref p) (.int a) H Q := ⟨p, xs, a, v, rfl, rfl, SqT.of h, hv, q⟩
theorem i_ixL {p : Addr} {xs : List V} {a : Int} (h : H p = some (.lst xs)) (hv : atI xs a = some v) (q : Q v H) : rIxL K (.ref p) (.int a) H Q := ⟨p, xs, a, v, rfl, rfl, SqL.of h, hv, q⟩
/-- a for's body and what follows, from the walk on -/
def forK (g : TG) (tb : TS) (D : Ends) (σ : L2.St) : It → Hp → Prop := fun J H1 => ∃ W : Nat → Nat → L2.St → Hp → Prop, (∃ m, W 0 m σ H1) ∧
  ∀ i m σ H, W i m σ H → (J.stop i H ∧ D.nx σ H) ∨ (J.go i H ∧ ∃ N : L2.St → Hp → Prop, (∀ σ' H', N σ' H' → ∃ m', m' < m ∧ W (i + 1) m' σ' H') ∧
    ∀ x H', J.yld i H x H' → g x σ H' fun σ2 H2 => tb { D with nx := N, ct := N, bk := D.nx } σ2 H2)
theorem i_for {wi : TI} {g : TG} (h : wi σ H (forK g t D σ)) : tFor wi g t D σ H := h
theorem i_iL {R : It → Hp → Prop} (h : te σ H fun x H1 => ∃ a, x = .ref a ∧ (∃ xs, SqL K H1 a xs) ∧ R (Itl K a) H1) : iList K te σ H R := h
theorem i_iT {R : It → Hp → Prop} (h : te σ H fun x H1 => ∃ a, x = .ref a ∧ (∃ xs, SqT K H1 a xs) ∧ R (Itt K a) H1) : iTup K te σ H R := h
theorem i_yes {P : Bool → Hp → Prop} (h : P true H) : tYes σ H P := h
theorem i_gsub {to ti : TE} {ts : TSet} {P : L2.St → Hp → Prop} (h : to σ H fun o H1 => ti σ H1 fun i H2 => ts o i v H2 fun H3 => P σ H3) : gSub to ti ts v σ H P := h
theorem pow_ok {a b : Nat} (ha : a ≤ 1000000) (hb : b ≤ 1000000) : CPow (b : Int) (a : Int) := ⟨by omega, by omega, by omega⟩
theorem cmulL {i j : Int} (h : decide (-(2 ^ 64) < i ∧ i < 2 ^ 64) = true) : CMul i j := .inl (of_decide_eq_true h)
theorem i_setL {p : Addr} {xs : List V} {k : Int} {j : Nat} {P : Hp → Prop} (h : H p = some (.lst xs)) (hj : ixN xs.length k = some j) (q : P (upd H p (.lst (xs.set j v)))) : rSetL (.ref p) (.int k) v H P := ⟨p, xs, k, j, rfl, rfl, h, hj, q⟩
theorem i_rng1 {ts : TA} {R : It → Hp → Prop} (h : ts σ H fun vs H1 => ∃ j : Int, vs = [.int j] ∧ -(2 ^ 62) ≤ j ∧ j < 2 ^ 62 ∧ R (Itr 0 j.toNat) H1) : iRng1 ts σ H R := h
theorem i_cut0 (h : t { D with nx := fun σ' H' => σ' = σ ∧ H' = H } σ H) (k : u D σ H) : C8.tCut t u D σ H := ⟨_, h, fun σ' H' e => by rw [e.1, e.2]; exact k⟩
theorem i_cm {C : Addr} {sp : Sp} {E : XK} {ts : TA} (h : te σ H fun x H1 => x = .ref C ∧ ts σ H1 fun vs H2 => sp (.ref C :: vs) H2 Q E) : ClX.tCMeth C sp E te ts σ H Q := h
theorem i_ckw {r : List V → List V → Hp → VK → Prop} {ts tk : TA} (h : ts σ H fun vs H1 => tk σ H1 fun zs H2 => r vs zs H2 Q) : tCKw r ts tk σ H Q := h
theorem i_bm {T : String} {r : V → List V → Hp → VK → Prop} {ts : TA} (h : te σ H fun x H1 => tyV K T x H1 ∧ ts σ H1 fun xs H2 => r x xs H2 Q) : tBM K T r te ts σ H Q := h
theorem i_bm0 {T : String} {r : V → List V → Hp → VK → Prop} (h : te σ H fun x H1 => tyV K T x H1 ∧ r x [] H1 Q) : tBM0 K T r te σ H Q := h
theorem i_tyL {p : Addr} {xs : List V} {A : Prop} (h : H p = some (.lst xs)) (q : A) : tyV K "list" (.ref p) H ∧ A := ⟨.inl ⟨rfl, _, SqL.of h⟩, q⟩
theorem i_app {p : Addr} {xs : List V} (h : H p = some (.lst xs)) (hz : xs.length ≤ 100000) (q : Q .non (upd H p (.lst (xs ++ [v])))) : rAppend (.ref p) [v] H Q := ⟨p, xs, v, rfl, rfl, h, size_lt hz, q⟩
theorem i_pop {p : Addr} {xs : List V} (h : H p = some (.lst (xs ++ [v]))) (q : Q v (upd H p (.lst xs))) : rPop (.ref p) [] H Q := ⟨p, _, v, rfl, rfl, h, by simp, by rw [List.dropLast_concat]; exact q⟩
theorem i_truL {p : Addr} {xs : List V} {P : Bool → Hp → Prop} (h : H p = some (.lst xs)) (q : P (!xs.isEmpty) H) : ∃ k, TruV K (.ref p) H k ∧ P k H := ⟨_, .inl ⟨xs, SqL.of h, rfl⟩, q⟩
theorem i_gtup {p : Addr} {xs : List V} {n : Nat} {g : TGs} {P : L2.St → Hp → Prop} (h : H p = some (.tup xs)) (hn : xs.length = n) (q : g xs σ H P) : gTup K n g (.ref p) σ H P := ⟨p, xs, rfl, SqT.of h, hn, q⟩
theorem i_gcons {g : TG} {gs : TGs} {vs : List V} {P : L2.St → Hp → Prop} (q : g v σ H fun σ' H' => gs vs σ' H' P) : gCons g gs (v :: vs) σ H P := ⟨v, vs, rfl, q⟩
theorem i_gnil {P : L2.St → Hp → Prop} (q : P σ H) : gNil [] σ H P := ⟨rfl, q⟩
theorem i_par {ts : TA} {a b : Nat} (h : ts σ H fun vs H1 => ∃ v w, vs = [v, w] ∧ D.nx ((σ.set a (some v)).set b (some w)) H1) : tPar a b ts D σ H := h
theorem ite_d {c A B : Prop} [Decidable c] (h1 : c → A) (h2 : ¬ c → B) : if decide c = true then A else B := by
  by_cases h : c
  · rw [decide_eq_true h, if_pos rfl]; exact h1 h
  · rw [decide_eq_false h, if_neg (by decide)]; exact h2 h
theorem ite_nd {c A B : Prop} [Decidable c] (h1 : ¬ c → A) (h2 : c → B) : if (!decide c) = true then A else B := by
  by_cases h : c
  · rw [decide_eq_true h, if_neg (by decide)]; exact h2 h
  · rw [decide_eq_false h, if_pos (by decide)]; exact h1 h
end
theorem sm_up {H H' : Hp} {a : Addr} {o : HO} (s : Same H H') (h : H a = some o) : H' a = some o := s a o h

/-! ## the data: stretches, parts, sets -/
abbrev ov : Option Int → V := fun o => match o with
  | none => .non
  | some i => .int i
def kx (s : Stc) : Int := match s.1 with | none => 0 | some _ => 1
def ky (s : Stc) : Int := match s.1 with | none => 0 | some i => i
def key (s : Stc) : List V := [.int (kx s), .int (ky s)]
def keyD (s : Stc) : PyData := .tuple [.int (kx s), .int (ky s)]
/-- v is a tuple (low, high) -/
def TupS (H : Hp) (v : V) (s : Stc) : Prop := ∃ a, v = .ref a ∧ H a = some (.tup [ov s.1, ov s.2])
/-- the values are stretches, one by one -/
def Tups (H : Hp) : List V → List Stc → Prop := Paired (TupS H)
theorem TupS.up {H H' : Hp} {v : V} {s : Stc} (e : Same H H') (h : TupS H v s) : TupS H' v s := by
  obtain ⟨a, rfl, h⟩ := h
  exact ⟨a, rfl, e _ _ h⟩
theorem Tups.up {H H' : Hp} {vs : List V} {ss : List Stc} (e : Same H H') (h : Tups H vs ss) : Tups H' vs ss := Paired.mapP h fun _ _ z => z.up e

theorem tups_zip {H : Hp} {xs : List V} {ss : List Stc} (h : Tups H xs ss) : ∀ b, b ∈ xs.zip ss → TupS H b.1 b.2 := by
  induction h with
  | nil => intro b hb; simp at hb
  | cons r t ih =>
    intro b hb
    rw [List.zip_cons_cons] at hb
    rcases List.mem_cons.mp hb with rfl | hb
    · exact r
    · exact ih b hb
theorem tups_of {H : Hp} : ∀ {bs : List (V × Stc)}, (∀ b, b ∈ bs → TupS H b.1 b.2) → Tups H (bs.map (·.1)) (bs.map (·.2))
  | [], _ => .nil
  | b :: bs, h => .cons (h b (by simp)) (tups_of fun c hc => h c (by simp [hc]))
theorem kxy_le {a b : Stc} (h : kx a < kx b ∨ (kx a = kx b ∧ ky a ≤ ky b)) : lowLe a.1 b.1 := by
  obtain ⟨l, r⟩ := a
  obtain ⟨l', r'⟩ := b
  cases l <;> cases l' <;> simp_all [kx, ky, lowLe]
/-- what sorted by start_of gives: the same stretches, by their low ends -/
theorem sorted_low {H : Hp} {xs : List V} {ss : List Stc} (h : Tups H xs ss) : ∃ ss', Tups H (byKeys xs (ss.map keyD)) ss' ∧ ss'.Perm ss ∧ ss'.Pairwise fun a b => lowLe a.1 b.1 := by
  have hlen : xs.length = ss.length := Paired.length h
  have e1 : xs.zip (ss.map keyD) = (xs.zip ss).map fun b => (b.1, keyD b.2) := by rw [List.zip_map_right]; rfl
  have hle : PySem.W.dataLe false (fun b : V × Stc => keyD b.2) = fun p q => decide (kx p.2 < kx q.2 ∨ (kx p.2 = kx q.2 ∧ ky p.2 ≤ ky q.2)) := PySem.W.dataLe_ii (fun b : V × Stc => kx b.2) fun b => ky b.2
  have e2 : byKeys xs (ss.map keyD) = ((xs.zip ss).mergeSort (PySem.W.dataLe false fun b : V × Stc => keyD b.2)).map (·.1) := by
    unfold byKeys
    rw [e1, ← List.map_mergeSort (f := fun b : V × Stc => (b.1, keyD b.2)) (r := PySem.W.dataLe false fun b : V × Stc => keyD b.2) (s := PySem.W.dataLe false fun b : V × PyData => b.2) (fun _ _ _ _ => rfl), List.map_map]
    rfl
  rw [e2, hle]
  have pm := List.mergeSort_perm (xs.zip ss) fun p q => decide (kx p.2 < kx q.2 ∨ (kx p.2 = kx q.2 ∧ ky p.2 ≤ ky q.2))
  have pw := List.pairwise_mergeSort (le := fun p q : V × Stc => decide (kx p.2 < kx q.2 ∨ (kx p.2 = kx q.2 ∧ ky p.2 ≤ ky q.2)))
    (fun a b c h1 h2 => by simp only [decide_eq_true_eq] at *; omega) (fun a b => by simp only [Bool.or_eq_true, decide_eq_true_eq]; omega) (xs.zip ss)
  refine ⟨_, tups_of fun b hb => tups_zip h b (pm.mem_iff.mp hb), ?_, ?_⟩
  · have := pm.map (·.2)
    rwa [List.map_snd_zip (by omega)] at this
  · refine List.pairwise_map.mpr (pw.imp fun {a b} hab => kxy_le (by simpa using hab))
theorem keys_alike (ss : List Stc) : PySem.W.AllAlike (ss.map keyD) := PySem.W.AllAlike.of fun _ _ => by simp [keyD, PySem.W.alike, PySem.W.alikeAll]
theorem keys_sort (ss : List Stc) : PySem.W.Sortable (ss.map keyD) := PySem.W.Sortable.tuples fun _ => ⟨_, _, rfl⟩
theorem keys_deep (ss : List Stc) : ∀ d, d ∈ ss.map keyD → d.depth ≤ 100 := fun d hd => by
  obtain ⟨s, _, rfl⟩ := List.mem_map.mp hd
  simp [keyD, PyData.depth, PyData.depthAll]

/-! ## cls(..) of a local name, C.m() without arguments -/
section
open PySem.Spec PyProof.Rows ClX StX
variable {X : Cx} {CX : CXT} {k i : Nat} {f C p g : Addr} {mc : Value} {sp : Sp} {E : XK} {x m : Str} {q pos apos : Pos} {e o : Expr} {es : List Expr} {ta : TE} {t : TA}
def tMakeL (i : Nat) (C : Addr) (sp : Sp) (E : XK) (t : TA) : TE := fun σ H Q => σ[i]? = some (some (.ref C)) ∧ tMakeR C sp E t σ H Q
theorem pe_makeL (M : Mk X.K C f) (F : FnR X.prog X.w X.K X.mg X.base CX k f sp) (hr : Room (k + 1) X.A) (hN : X.N[i]? = some x) (hv : Vis X.env.scope x) (hx : Passes CX X E) (ha : PA X (e :: es) t)
    (hdb : (x == ("__debug__" : Str)) = false := by decide) (hcd : (x == ("__classdict__" : Str)) = false := by decide)
    (he : starEach (e :: es) X.env = (false, eval e X.env) :: starEach es X.env := by rfl) (hpl : (backTo pos (starEach es X.env)).any (·.1) = false := by rfl) : PE X (.Call (.Name x q) (e :: es) [] pos) (tMakeL i C sp E t) := by
  refine ⟨fun pins s σ H Q I h => ?_⟩
  obtain ⟨hs, ht⟩ := h
  have ld := (pe_var (pos := q) hN hv hdb hcd).run pins s σ H (fun v H1 => v = .ref C ∧ H1 = H) I ⟨.ref C, hs, rfl, rfl⟩
  refine wpAny_Call_Name_kw (thn ld fun u s1 ⟨v, H1, I1, r1, q1⟩ => ?_)
  obtain ⟨rfl, rfl⟩ := q1
  cases r1
  refine PySem.W.callWith_K (h₀ := X.base) I.ok.mod.kin M.kp (thn (ha.run pos pins s1 σ _ _ I1 ht) fun us s2 ⟨vs, H2, I2, r, z⟩ => ⟨I2.kIn, ?_⟩) he hpl
  exact run_makeR M F hr hx I2 r z
theorem pe_cmeth0 {pl : Sem Bool} (he : PE X o ta) (r : CRead X.K C mc) (c : CMet X.K C mc m p g) (F : FnR X.prog X.w X.K X.mg X.base CX k g sp) (hr : Room k X.A) (hx : Passes CX X E)
    (ht : eval (.Call (.Attribute o m apos) [] [] pos) X.env = (do
      let ov ← eval o X.env
      standAt apos.atName
      let (f, first) ← holding [ov] (getMethod ov m pl)
      callWith pos f first (backTo pos (starEach [] X.env)) (backToKw pos (keywordEach [] X.env))) := by rfl) : PE X (.Call (.Attribute o m apos) [] [] pos) (tCMeth C sp E ta tNil) := by
  refine ⟨fun pins s σ H Q I h => ?_⟩
  refine PySem.W.methodCall_KW (pl := pl) (thn (he.run pins s σ H _ I h) fun u s1 ⟨x, H1, I1, rx, ex, z⟩ => ?_) ht
  subst ex
  obtain rfl : u = Value.ref C := rx
  refine getmethcm_ok I1 r c fun s2 I2 => ?_
  exact PySem.W.callWith_M0 (first := []) ⟨pin_at I2, I2.kIn⟩ c.fi (run_cm F hr hx I2 .nil z)
end

/-- def f(a, .., *v) by its text -/
theorem _root_.L2.Fun.okStar {P : Program} {w : World} {K : PySem.W.Frag} {mg : Str → Option Value} {base : Heap} {x qual pv : Str} {st : Stmt} {f : Addr} {fd : FuncData} {N ps : List Str} {k : Nat} {sp : Sp} (F : Fun K x qual st f fd) (S : FnScope N (ps ++ [pv]) (defScope st))
    (hb : ∀ (kV doc pm : Value) (an : Option Addr) (cdv ct : Value) (us rest : List Value), us.length = ps.length →
      bindArgs (PySem.W.fnOf x qual (defArgs st) (defBody st) (defScope st) .none kV doc pm an cdv ct) ⟨us ++ rest, []⟩ = (newTuple rest >>= fun t => pure (ps.zip us ++ [(pv, t)])))
    (hbody : ∀ (cdv : Value) (A : Around) (outer : List Env) (s : Shared) (H : Hp) (vs : List V) (Q : VK) (E : XK), Room k (A.deeper (PyProof.Rows.envOfC qual (defScope st) s.heap.objs.size f cdv)) → sp vs H Q E →
      ∃ t, PSs (cxOf CX0 P w K mg base N qual (defScope st) f cdv A outer s H E).nox (defBody st) t ∧ t { nx := fun _ H' => Q .non H', rt := Q } (L2.start N vs) H) :
    FnR P w K mg base CX0 (k + 1) f (fun vs H Q E => ∃ ws rest, vs = ws ++ rest ∧ ws.length = ps.length ∧ rest.length ≤ sizeLine ∧ ∀ p, H p = none → sp (ws ++ [V.ref p]) (upd H p (.tup rest)) Q E) := by
  obtain ⟨oc, od, kV, doc, pm, an, cdv, ct, osl, rfl, lk, hcd⟩ := F.ex
  refine StX.fn_star lk hcd S StX.cxUp_none (hb kV doc pm an cdv ct) fun A outer s H vs Q E hr hsp => ?_
  obtain ⟨t, h, q⟩ := hbody cdv A outer s H vs Q E hr hsp
  exact ⟨t, h.nox, q⟩
end Spk

set_option Elab.async false
set_option linter.all false
set_option maxRecDepth 100000
set_option maxHeartbeats 1000000
namespace Spk
open PySem PySem.Spec PyProof.Rows PySem.W L2
/-! ## defs that are entered while nothing is being shown: in them lists and tuples may be shown by repr -/

/-- the promise of a def, for such entries alone -/
structure FnG (P : Program) (w : World) (K : Frag) (mg : Str → Option Value) (base : Heap) (CX : CXT) (k : Nat) (f : Addr) (fd : FuncData) (ps : List Str) (sp : Sp) : Prop where
  arity : ∀ vs H Q E, sp vs H Q E → vs.length = ps.length
  goes : ∀ (A : Around), A.guards = some [] → ∀ (outer : List Env) (s : Shared) (H : Hp) (args : Args) (us : List Value) (vs : List V) (Q : VK) (E : XK), Room k A → Env0 P w K mg base A outer s H →
    BindsTo s fd args (ps.zip us) → Vals vs us → sp vs H Q E → codeAny (model P w) A (.call (.ref f) args) (CR CX outer P w H s Q E) s

section
variable {P : Program} {w : World} {K : Frag} {mg : Str → Option Value} {base : Heap} {CX : CXT} {j k : Nat} {f : Addr} {fd : FuncData} {ps : List Str} {sp : Sp}
theorem FnG.of (F : FnOk P w K mg base CX k f fd ps sp) : FnG P w K mg base CX k f fd ps sp :=
  ⟨F.len, fun A _ outer s H args us vs Q E hr e b v h => F.run A outer s H args us vs Q E hr e b v h⟩
theorem FnG.mono (F : FnG P w K mg base CX j f fd ps sp) (h : j ≤ k) : FnG P w K mg base CX k f fd ps sp :=
  ⟨F.arity, fun A g outer s H args us vs Q E hr => F.goes A g outer s H args us vs Q E (hr.mono h)⟩
/-- a def by its body -/
theorem fn_ofG {name qual : Str} {params : Arguments} {body : List Stmt} {scope : Scope} {dV kV doc pm cdv ct oc : Value} {an od : Option Addr} {osl : Array (Option Value)} {N : List Str}
    (lk : K.lookup f = some ⟨oc, od, .func (fnOf name qual params body scope dV kV doc pm an cdv ct), osl⟩) (hcd : codeIn K cdv qual = true) (S : FnScope N ps scope) (ar : ∀ vs H Q E, sp vs H Q E → vs.length = ps.length)
    (hb : ∀ (A : Around), A.guards = some [] → ∀ (outer : List Env) (s : Shared) (H : Hp) (vs : List V) (Q : VK) (E : XK), Room k (A.deeper (envOfC qual scope s.heap.objs.size f cdv)) → sp vs H Q E →
      ∃ t, PSs (cxOf CX P w K mg base N qual scope f cdv A outer s H E) body t ∧ t { nx := fun _ H1 => Q .non H1, rt := Q } (L2.start N vs) H) :
    FnG P w K mg base CX (k + 1) f (fnOf name qual params body scope dV kV doc pm an cdv ct) ps sp := by
  constructor
  · exact ar
  intro A g outer s H args us vs Q E hr e0 bi r hsp
  have hl := ar _ _ _ _ hsp
  have KX : K.In s.heap := e0.mod.kin.keeps fun c o z => (e0.bs c o z).1
  have lim : s.heap.NoLimit := e0.mod.nolimit.keeps fun c o z => (e0.bs c o z).1
  have kinds : ∀ y, y ∈ ps.zip us → scope.names.lookup y.1 = some .local ∨ (scope.names.lookup y.1 = some .cell ∧ ((cellsFrom (s.heap.objs.size + 1) scope.names []).lookup y.1).isSome = true) := by
    intro y hy
    have hm := (List.of_mem_zip (show (y.1, y.2) ∈ ps.zip us from hy)).1
    exact (S.par y.1 hm).imp id fun q => ⟨q, cellsFrom_some _ _ _ (.inl q)⟩
  refine codeAny_call_function hr.depth (KX _ _ lk) rfl S.co S.gen rfl (codeRec_of KX hcd) (bi _ _ _ _ ?_)
  refine wpAny_newFunctionEnv_cells S.kind kinds ?_
  intro env he s1 x
  subst he
  constructor
  · exact lim.keeps x.toInCall.keep
  refine codeAny_func ?_
  obtain ⟨t, ht, hq⟩ := hb A g outer s H vs Q E (hr.deeper _) hsp
  have I : Inv (cxOf CX P w K mg base N qual scope f cdv A outer s H E) [] (L2.start N vs) H s1 := inv_start S hr.hd e0 hl r x
  have out : ∀ {τ : L2.St} {H1 : Hp} {v : V} {u : Value} {s2 : Shared}, Inv (cxOf CX P w K mg base N qual scope f cdv A outer s H E) [] τ H1 s2 → RelV v u → Q v H1 → CE outer P w H s Q u s2 := by
    intro τ H1 v u s2 J rv q
    exact ⟨v, H1, J.os, J.bare, J.base, J.hok, rv, q⟩
  refine wpAny_mono (ht.run [] s1 (L2.start N vs) H _ I hq) ?_ fun e s2 z => z
  intro fl s2 hs
  match fl, hs with
  | .ret u, hs =>
    obtain ⟨v, τ, H1, J, rv, q⟩ := hs
    exact out J rv q
  | .next, hs =>
    obtain ⟨τ, H1, J, q⟩ := hs
    exact out (v := V.non) (u := Value.none) J rfl q
  | .brk, hs =>
    obtain ⟨_, _, _, q⟩ := hs
    exact q.elim
  | .cont, hs =>
    obtain ⟨_, _, _, q⟩ := hs
    exact q.elim
end
section
variable {P : Program} {w : World} {K : Frag} {mg : Str → Option Value} {base : Heap} {k : Nat} {f : Addr} {fd : FuncData} {ps : List Str} {sp : Sp}
theorem _root_.L2.Fun.okG {x qual : Str} {st : Stmt} {N : List Str} (F : Fun K x qual st f fd) (S : FnScope N ps (defScope st)) (ar : ∀ vs H Q E, sp vs H Q E → vs.length = ps.length)
    (hb : ∀ (cdv : Value) (A : Around), A.guards = some [] → ∀ (outer : List Env) (s : Shared) (H : Hp) (vs : List V) (Q : VK) (E : XK), Room k (A.deeper (envOfC qual (defScope st) s.heap.objs.size f cdv)) → sp vs H Q E →
      ∃ t, PSs (cxOf CX0 P w K mg base N qual (defScope st) f cdv A outer s H E).nox (defBody st) t ∧ t { nx := fun _ H1 => Q .non H1, rt := Q } (L2.start N vs) H) : FnG P w K mg base CX0 (k + 1) f fd ps sp := by
  obtain ⟨oc, od, kV, doc, pm, an, cdv, ct, osl, rfl, lk, hcd⟩ := F.ex
  refine fn_ofG lk hcd S ar ?_
  intro A g outer s H vs Q E hr hsp
  obtain ⟨t, h, q⟩ := hb cdv A g outer s H vs Q E hr hsp
  exact ⟨t, h.nox, q⟩
end
section
variable {X : Cx} {CX : CXT} {k : Nat} {f : Addr} {fd : FuncData} {ps : List Str} {ds : List Value} {dvs : List V} {sp : Sp} {E : XK}
theorem run_g {pins : List (Addr × Obj)} {σ : L2.St} {H : Hp} {s : Shared} {Q : VK} {us : List Value} {vs : List V} (F : FnG X.prog X.w X.K X.mg X.base CX k f fd ps sp) (g : X.A.guards = some []) (hr : Room k X.A) (hb : Binds X.K fd ps ds)
    (hd : Vals dvs ds) (hx : Passes CX X E) (I : Inv X pins σ H s) (r : Vals vs us) (h : sp (vs ++ dvs) H Q E) : wpAny (model X.prog X.w) X.A (call (.ref f) us) (EP X pins σ Q) X.xe s := by
  have all : Vals (vs ++ dvs) (us ++ ds) := r.append hd
  have many : (us ++ ds).length = ps.length := by
    rw [← all.length]
    exact F.arity _ _ _ _ h
  have z := F.goes X.A g X.stack s H ⟨us, []⟩ (us ++ ds) (vs ++ dvs) Q E hr I.env0 (hb s us I.kIn many) all h
  refine wpAny_call (codeAny_mono z ?_)
  intro r s1 hq
  match r, hq with
  | .error e, hq => exact hx pins σ H s e s1 I hq
  | .ok (.ret u), hq => exact I.after hq
  | .ok .next, hq => exact hq.elim
  | .ok .brk, hq => exact hq.elim
  | .ok .cont, hq => exact hq.elim
variable {x : Str} {e : Expr} {es : List Expr} {t : TA} {p pos : Pos}
theorem pe_callG (F : FnG X.prog X.w X.K X.mg X.base CX k f fd ps sp) (g : X.A.guards = some []) (hr : Room k X.A) (hg : Gl X x) (hm : X.mg x = some (.ref f)) (hk : keepIn X.K (.ref f) = true) (hb : Binds X.K fd ps ds) (hd : Vals dvs ds) (hx : Passes CX X E)
    (ha : PA X (e :: es) t) (hdb : (x == ("__debug__" : Str)) = false := by decide) (he : starEach (e :: es) X.env = (false, eval e X.env) :: starEach es X.env := by rfl) (hpl : (backTo pos (starEach es X.env)).any (·.1) = false := by rfl) :
    PE X (.Call (.Name x p) (e :: es) [] pos) (tCall sp dvs E t) := by
  constructor
  intro pins s σ H Q I h
  refine wpAny_Call_Name_kw (ld_glob I hg hm ?_ hdb)
  refine callWith_K (h₀ := X.base) I.ok.mod.kin hk (thn (ha.run pos pins s σ H _ I h) ?_) he hpl
  intro us s1 z
  obtain ⟨vs, H1, I1, r, q⟩ := z
  exact ⟨I1.kIn, run_g F g hr hb hd hx I1 r q⟩
/-- repr of data: None, truths, ints, texts, lists and tuples of these at any depth -/
def rReprD (K : Frag) : List V → Hp → VK → Prop := fun vs H Q => ∃ (a : Addr) (d : PyData), vs = [V.ref a] ∧ Dp K H (.ref a) d ∧ d.showable = true ∧ d.hasDict = false ∧ d.depth ≤ 64 ∧ d.shown.length ≤ sizeLine ∧ Q (.str d.shown) H
theorem cr_reprD (g : X.A.guards = some []) (hu : X.A.units + 66 < cLine) : CallR X (.builtin "repr") (rReprD X.K) := by
  intro pins s σ H vs us Q I r h
  obtain ⟨a, d, rfl, hd, sh, nd, dp, sz, q⟩ := h
  cases r with
  | cons ru rt =>
    cases rt
    obtain ⟨as, rd⟩ := Dp.reads I d _ _ hd ru
    cases ru
    refine repr_of_reads' rd sh (fun z => by rw [nd] at z; cases z) g (by omega) (fun _ _ z => z) (fun h1 u tk keep => ?_) sz
    exact ⟨.str _, H, I.kept keep, ⟨_, rfl⟩, q⟩
end
end Spk

set_option Elab.async false
set_option linter.all false
set_option maxRecDepth 100000
set_option maxHeartbeats 1000000
namespace Spk
open PySem PySem.Spec PyProof.Rows PySem.W L2
/-! ## a law's end, from a promise for entries while nothing is being shown -/
section
variable {P : Program} {w : World} {K : Frag} {mg mb : Str → Option Value} {CX : CXT} {k : Nat} {fa a : Addr} {fd : FuncData} {x : Str} {sp : Sp} {s1 : Shared} {vs : List Value} {ns : List Int}
/-- an abstract heap in which nothing but the script is tracked, if it is no object of the text -/
theorem start_heap (KX : K.In s1.heap) (ha : s1.heap.get? a = some { cls := .type "list", data := .seq vs.toArray }) (hi : IntsAre vs ns) (hl : ns.length ≤ sizeLine) :
    ∃ H : Hp, Only H ∧ SqL K H a (ns.map V.int) ∧ HOk P w H s1.heap ∧ (∀ b, (H b).isSome = true → b = a ∧ K.lookup a = none) := by
  have rv := vals_ints hi
  cases hk : K.lookup a with
  | some o =>
    have same := (KX a o hk).symm.trans ha
    cases same
    have n0 : HOk P w (fun _ => none) s1.heap := by
      intro b u z
      cases z
    have m0 : ∀ b : Addr, ((fun _ => none : Hp) b).isSome = true → b = a ∧ some ({ cls := .type "list", data := .seq vs.toArray } : Obj) = none := by
      intro b z
      cases z
    have q0 : SqL K (fun _ => none) a (ns.map V.int) := by
      refine Or.inr ⟨_, vs.toArray, _, hk, rfl, rfl, rfl, ?_, ?_⟩
      · rw [List.size_toArray, hi.length]
        exact hl
      · simpa using rv
    exact ⟨fun _ => none, fun _ => Or.inl rfl, q0, n0, m0⟩
  | none =>
    have one : ∀ b (u : HO), (if b = a then some (HO.frz { cls := .type "list", data := .seq vs.toArray } (.lst (ns.map V.int))) else none) = some u → b = a ∧ u = .frz { cls := .type "list", data := .seq vs.toArray } (.lst (ns.map V.int)) := by
      intro b u z
      split at z
      · rename_i e
        exact ⟨e, (Option.some.inj z).symm⟩
      · cases z
    refine ⟨fun b => if b = a then some (.frz { cls := .type "list", data := .seq vs.toArray } (.lst (ns.map V.int))) else none, fun b => ?_, Or.inl (Or.inr ⟨{ cls := .type "list", data := .seq vs.toArray }, if_pos rfl⟩), fun b u z => ?_, fun b z => ?_⟩
    · show (if b = a then _ else _) = _ ∨ _
      split
      · exact .inr ⟨_, _, if_pos (by assumption)⟩
      · exact .inl rfl
    · obtain ⟨rfl, rfl⟩ := one b u z
      refine ⟨ha, ?_, vs, _, rv, ha⟩
      rw [List.length_map]
      exact hl
    · obtain ⟨u, e⟩ := Option.isSome_iff_exists.mp z
      exact ⟨(one b u e).1, rfl⟩
/-- the law's promise at the heap behind the top -/
theorem law_g (KX : K.In s1.heap) (hns : s1.heap.Ns mainGlobals mg) (hb : s1.heap.Ns builtinsNs mb) (hbb : ∀ x : Str, x ≠ "__name__" → mb x = bootBuiltins x) (hlim : s1.heap.NoLimit) (hg : s1.gens = #[])
    (ha : s1.heap.get? a = some { cls := .type "list", data := .seq vs.toArray }) (hi : IntsAre vs ns) (hl : ns.length ≤ sizeLine) (hr : Room k callerA)
    (F : ∀ base : Heap, K.In base → base.Ns mainGlobals mg → FnG P w K mg base CX k fa fd [x] sp) (bi : ∀ (s : Shared) (u : Value), BindsTo s fd ⟨[u], []⟩ [(x, u)])
    (hsp : ∀ H : Hp, Only H → SqL K H a (ns.map V.int) → sp [.ref a] H (fun v _ => v = .bl true) fun _ _ _ => False) (hCX : ∀ H e s2, CX [] H s1 (fun _ _ _ => False) e s2 → False) :
    codeAny (model P w) callerA (.call (.ref fa) ⟨[.ref a], []⟩) (fun r s2 => r = .ok (.ret (.bool true)) ∧ OldK s1.heap s2.heap ∧ s2.os = s1.os ∧ AllBare s2.gens) s1 := by
  obtain ⟨H, only, sq, hok, mine⟩ := start_heap (P := P) (w := w) KX ha hi hl
  have off : ∀ {b : Addr} {o : Obj}, s1.heap.get? b = some o → H b = none → (hidT s1.heap H).get? b = some o := fun e n => hidT_get e n
  have free : ∀ {b : Addr}, (b = a → K.lookup a = none → False) → H b = none := by
    intro b no
    cases q : H b with
    | none => rfl
    | some u =>
      have z := mine b (by rw [q] <;> rfl)
      exact (no z.1 z.2).elim
  have dicts : ∀ {b : Addr} {o : Obj} {es : Array DictEntry} {ep : Nat}, s1.heap.get? b = some o → o.data = .dict es ep → H b = none := by
    intro b o es ep e d
    refine free fun z _ => ?_
    rw [z, ha] at e
    cases e
    cases d
  have names : ∀ {b : Addr} {m : Str → Option Value}, s1.heap.Ns b m → (hidT s1.heap H).Ns b m := by
    intro b m z
    obtain ⟨o, es, ep, e, d, r⟩ := z
    exact ⟨o, es, ep, off e (dicts e d), d, r⟩
  have inB : K.In (hidT s1.heap H) := by
    intro b o e
    refine off (KX b o e) (free fun z n => ?_)
    rw [z, n] at e
    cases e
  have mod : Mod K mg (hidT s1.heap H) := by
    obtain ⟨mc, h1, h2⟩ := hlim
    exact ⟨inB, names hns, ⟨mb, names hb, hbb⟩, mc, names h1, h2⟩
  have e0 : Env0 P w K mg (hidT s1.heap H) callerA [] s1 H :=
    ⟨rfl, mod, fun b o e => of_hidT e, Nat.le_of_eq (hidT_size _ _), trivial, fun b z => (List.not_mem_nil z).elim, hok, .of_eq hg⟩
  have z := (F _ inB (names hns)).goes callerA rfl [] s1 H ⟨[.ref a], []⟩ [.ref a] [.ref a] _ _ hr e0 (bi s1 (.ref a)) (.cons rfl .nil) (hsp H only sq)
  refine codeAny_mono z ?_
  intro r s2 q
  match r, q with
  | .error e, q => exact (hCX H e s2 q).elim
  | .ok .next, q => exact q.elim
  | .ok .brk, q => exact q.elim
  | .ok .cont, q => exact q.elim
  | .ok (.ret u), q =>
    obtain ⟨v, H2, os, gens, un, hok2, rv, e⟩ := q
    cases (show v = .bl true from e)
    cases (show u = Value.bool true from rv)
    refine ⟨rfl, OldK.of_keep ?_, os, gens⟩
    intro b o e
    rcases only b with n | ⟨ob, xs, n⟩
    · exact un.keep b o e n (fun z => List.not_mem_nil z) (fun z => List.not_mem_nil z)
    · have e1 := (hok b _ n).1
      have e2 := (hok2 b _ (un.frzs b ob _ n)).1
      rw [e] at e1
      cases e1
      exact e2
end
theorem walk_g {l : OpenLaw} {n k : Nat} {q : Program} {loose : List Str} {XP : (Str → Option Value) → Heap → Prop} {YP : World → Heap → Prop} {d : DefRec} {CX : CXT} {x : Str} (hn : l.most = some n) (hn2 : n ≤ sizeLine) (hdf : d.params.defaults = [])
    (hr : Room k callerA)
    (F : ∀ (w : World) (mg : Str → Option Value) (fa : Addr) (h : Heap), YP w h → h.Ns mainGlobals mg → mg d.name = some (.ref fa) → ∃ (K : Frag) (fd : FuncData) (sp : Sp), K.In h ∧ (∀ (s : Shared) (u : Value), BindsTo s fd ⟨[u], []⟩ [(x, u)]) ∧
        (∀ (H : Hp) (a : Addr) (ns : List Int), ns.length ≤ n → Only H → SqL K H a (ns.map V.int) → sp [.ref a] H (fun v _ => v = .bl true) fun _ _ _ => False) ∧
        ∀ base : Heap, K.In base → base.Ns mainGlobals mg → FnG l.prog w K mg base CX k fa fd [x] sp)
    (hCX : ∀ (H : Hp) (s : Shared) (e : Value) (s2 : Shared), CX [] H s (fun _ _ _ => False) e s2 → False) : WalkO q loose XP YP l.row.toRowW d [] (fun f vs => PySem.call f vs) := by
  refine Att.attach_call hn hdf ?_
  intro w s0 s1 mg mb fa o pm cd doc a vs ns G Y _ _ _ hmg hobj hints hlen hg
  obtain ⟨K, fd, sp, KX, bi, hsp, hF⟩ := F w mg fa _ Y G.T.g hmg
  exact law_g KX G.T.g G.T.b G.T.builtins G.T.nolimit hg hobj hints (Nat.le_trans hlen hn2) hr hF bi (fun H only sq => hsp H a ns hlen only sq) fun H e s2 => hCX H s1 e s2
end Spk

set_option Elab.async false
set_option linter.all false
set_option maxRecDepth 100000
set_option maxHeartbeats 2000000
namespace Spk
open PySem PySem.Spec PyProof.Rows L2
/-! ## for x, y in zip(l, t), l a list and t a tuple -/
def ItzM (K : PySem.W.Frag) (a b : Addr) : It where
  go := fun i H => ∃ (xs ys : List V) (x y : V), SqL K H a xs ∧ SqT K H b ys ∧ xs[i]? = some x ∧ ys[i]? = some y
  yld := fun i H v H' => ∃ T x y, v = .ref T ∧ H T = none ∧ H' = upd H T (.tup [x, y]) ∧ (∀ xs, SqL K H a xs → xs[i]? = some x) ∧ ∀ ys, SqT K H b ys → ys[i]? = some y
  stop := fun i H => ∃ xs ys : List V, SqL K H a xs ∧ SqT K H b ys ∧ xs.length = i ∧ ys.length = i
theorem turn_zipM {P : Program} {w : World} {K : PySem.W.Frag} {elts : List Expr} {kk : Nat} {tpos : Pos} {a b z TI TO i1 i2 : Addr} (Z : ZipSep2 z TI TO i1 i2 [i1, a] [i2, b]) (n1 : a ≠ i1) (n2 : b ≠ i2) :
    Turn P w K (.Tuple elts kk tpos) (ItzM K a b) [z, TI, TO, i1, i2] z (fun i h => IsZip h z TI TO .none ∧ IsTupOf2 h TI (.ref i1) (.ref i2) ∧ (∃ x y, IsTupOf2 h TO x y) ∧ h.IsListIter i1 a i ∧ h.IsTupleIter i2 b i) where
  mem := by simp
  obj := fun i h st c hc => by
    obtain ⟨h1, h2, ⟨x, y, h3⟩, ⟨o, ho, _, hd⟩, ⟨o2, ho2, _, hd2⟩⟩ := st
    simp only [List.mem_cons, List.not_mem_nil, or_false] at hc
    rcases hc with rfl | rfl | rfl | rfl | rfl
    · exact ⟨_, h1, fun v q => nomatch q⟩
    · exact ⟨_, h2, fun v q => nomatch q⟩
    · exact ⟨_, h3, fun v q => nomatch q⟩
    · exact ⟨o, ho, fun v q => by rw [hd] at q; cases q⟩
    · exact ⟨o2, ho2, fun v q => by rw [hd2] at q; cases q⟩
  keep := fun i h h' st k => by
    obtain ⟨h1, h2, ⟨x, y, h3⟩, h4, h5⟩ := st
    exact ⟨k z (by simp) _ h1, k TI (by simp) _ h2, ⟨x, y, k TO (by simp) _ h3⟩, h4.at fun o q => k i1 (by simp) o q, h5.at fun o q => k i2 (by simp) o q⟩
  item := by
    intro X hP hw hK hc i pins s σ H E I hf st hg
    subst hP hw hK
    obtain ⟨h1, h2, ⟨x0, y0, h3⟩, h4, h5⟩ := st
    obtain ⟨xs, ys, x, y, hl, ht, hx, hy⟩ := hg
    obtain ⟨its, rv, pl, hz⟩ := I.list hl
    obtain ⟨its2, rv2, pt, hz2⟩ := I.tuple ht
    obtain ⟨u, hu, ru⟩ := rv.get hx
    obtain ⟨u2, hu2, ru2⟩ := rv2.get hy
    have D1 := Draws.list (prog := X.prog) (w := X.w) (A := X.A.in1) (I.ok.hd hc) i1 a n1 its.toArray
    have D2 := Draws.tuple (prog := X.prog) (w := X.w) (A := X.A.in1) (I.ok.hd hc) i2 b n2 its2.toArray
    have hi : i < its.toArray.size := by
      rw [List.size_toArray]
      exact (List.getElem?_eq_some_iff.mp hu).1
    have hi2 : i < its2.toArray.size := by
      rw [List.size_toArray]
      exact (List.getElem?_eq_some_iff.mp hu2).1
    have zl : z < s.heap.objs.size := Heap.lt_size h1
    have tl : TI < s.heap.objs.size := Heap.lt_size h2
    have ol : TO < s.heap.objs.size := Heap.lt_size h3
    have il : i1 < s.heap.objs.size := by
      obtain ⟨_, q, _⟩ := id h4
      exact Heap.lt_size q
    have jl : i2 < s.heap.objs.size := by
      obtain ⟨_, q, _⟩ := id h5
      exact Heap.lt_size q
    refine wpAny_pyNext_zipD2_item Z D1 D2 h1 h2 h3 ⟨h4, pl.isList⟩ ⟨h5, pt⟩ hi hi2 fun x1 x2 h' tk e1 e2 ho hto s1 s2 hT hsz hk => ?_
    have ex : x1 = u := by
      have q : its.toArray[i]? = some u := by simpa using hu
      rw [q] at e1
      exact (Option.some.inj e1).symm
    have ey : x2 = u2 := by
      have q : its2.toArray[i]? = some u2 := by simpa using hu2
      rw [q] at e2
      exact (Option.some.inj e2).symm
    subst ex ey
    refine ⟨_, rfl, wpAny_letOwnedTupleGo_zip (s := { s with heap := h', toks := tk }) ho fun h'' hz' sb => ?_⟩
    have hT2 : h''.get? s.heap.objs.size = some { cls := .type "tuple", data := .seq #[x1, x2] } := (sb.2 _ (Nat.ne_of_gt zl)).trans hT
    have new : ObjOk X.prog X.w (upd H s.heap.objs.size (.tup [x, y])) h'' s.heap.objs.size (.tup [x, y]) :=
      ⟨size_of (Nat.le_of_ble_eq_true rfl), [x1, x2], .cons ru (.cons ru2 .nil), ⟨_, hT2, rfl, _, rfl⟩⟩
    have keepB : ∀ c ob, c ∉ [z, TI, TO, i1, i2] → s.heap.get? c = some ob → h''.get? c = some ob := fun c ob hc q => by
      simp only [List.mem_cons, List.not_mem_nil, or_false, not_or] at hc
      exact (sb.2 c hc.1).trans (hk c ob hc.1 hc.2.2.1 hc.2.2.2.1 hc.2.2.2.2 q)
    have I1 := I.turnedNew (t' := tk) (ch := [z, TI, TO, i1, i2]) keepB hf (Nat.le_refl _) new
    have zi1 : i1 ≠ z := fun q => Z.zf1 (by rw [← q]; simp)
    have zi2 : i2 ≠ z := fun q => Z.zf2 (by rw [← q]; simp)
    have hTI : h'.get? TI = some { cls := .type "tuple", data := .seq #[.ref i1, .ref i2] } := hk TI _ Z.TIz Z.TITO Z.TIi1 Z.TIi2 h2
    refine ⟨.ref s.heap.objs.size, _, I1, rfl, ⟨_, x, y, rfl, I.hok.fresh (Nat.le_refl _), rfl, fun zs hy' => by rw [I.list_inj hy' hl]; exact hx, fun zs hy' => by rw [I.tuple_inj hy' ht]; exact hy⟩,
      ⟨hz', (sb.2 TI Z.TIz).trans hTI, ⟨x1, x2, (sb.2 TO Z.TOz).trans hto⟩, s1.1.at fun o q => (sb.2 i1 zi1).trans q, s2.1.at fun o q => (sb.2 i2 zi2).trans q⟩, fun c hc => ?_⟩
    have hc' : c < s.heap.objs.size := by
      simp only [List.mem_cons, List.not_mem_nil, or_false] at hc
      rcases hc with rfl | rfl | rfl | rfl | rfl <;> assumption
    rw [upd_ne (Nat.ne_of_lt hc')]
    exact (hf c hc).1
  done := by
    intro X hP hw hK hc i pins s σ H E I hf st hg
    subst hP hw hK
    obtain ⟨h1, h2, ⟨x0, y0, h3⟩, h4, h5⟩ := st
    obtain ⟨xs, ys, hl, ht, e1, e2⟩ := hg
    obtain ⟨its, rv, pl, hz⟩ := I.list hl
    obtain ⟨its2, rv2, pt, hz2⟩ := I.tuple ht
    have D1 := Draws.list (prog := X.prog) (w := X.w) (A := X.A.in1) (I.ok.hd hc) i1 a n1 its.toArray
    have D2 := Draws.tuple (prog := X.prog) (w := X.w) (A := X.A.in1) (I.ok.hd hc) i2 b n2 its2.toArray
    have z1 : its.toArray.size = i := by rw [List.size_toArray, ← rv.length]; exact e1
    have z2 : its2.toArray.size = i := by rw [List.size_toArray, ← rv2.length]; exact e2
    refine wpAny_pyNext_zipD2_end Z D1 D2 h1 h2 h3 ⟨h4, pl.isList⟩ ⟨h5, pt⟩ (Nat.le_of_eq z1.symm) (Nat.le_of_eq z2.symm) (.inl z1.symm) fun h' tk eb => ⟨rfl, ?_⟩
    exact I.turnedL (t' := tk) (ch := [z, TI, TO, i1, i2]) (fun c o hc q => by
      simp only [List.mem_cons, List.not_mem_nil, or_false, not_or] at hc
      exact eb c o hc.1 hc.2.2.1 hc.2.2.2.1 hc.2.2.2.2 q) hf
  self := fun A i s Q E st h => wpAny_pyIter_zip st.1 h
def iZipM (K : PySem.W.Frag) (ta : TA) : TI := fun σ H R => ta σ H fun vs H1 => ∃ a b xs ys, vs = [.ref a, .ref b] ∧ SqL K H1 a xs ∧ SqT K H1 b ys ∧ R (ItzM K a b) H1
theorem vals_two {v w : V} {us : List Value} (h : Vals [v, w] us) : ∃ u u2, us = [u, u2] ∧ RelV v u ∧ RelV w u2 := by
  cases h with
  | cons r t =>
    cases t with
    | cons r2 t2 =>
      cases t2
      exact ⟨_, _, rfl, r, r2⟩
theorem nm2 (x y z : Nat) (h1 : x ≠ y) (h2 : x ≠ z) : ¬ x ∈ [y, z] := by simp [h1, h2]
theorem zsep (n a b : Nat) (ha : a < n) (hb : b < n) : ZipSep2 (n + 4) (n + 2) (n + 3) n (n + 1) [n, a] [n + 1, b] where
  TIz := Nat.ne_of_lt (show n + 2 < n + 4 by omega)
  TOz := Nat.ne_of_lt (show n + 3 < n + 4 by omega)
  TITO := Nat.ne_of_lt (show n + 2 < n + 3 by omega)
  TIi1 := Nat.ne_of_gt (show n < n + 2 by omega)
  mem1 := List.mem_cons_self
  zf1 := nm2 (n + 4) n a (by omega) (by omega)
  Tf1 := nm2 (n + 3) n a (by omega) (by omega)
  TIi2 := Nat.ne_of_gt (show n + 1 < n + 2 by omega)
  mem2 := List.mem_cons_self
  zf2 := nm2 (n + 4) (n + 1) b (by omega) (by omega)
  Tf2 := nm2 (n + 3) (n + 1) b (by omega) (by omega)
  sep1_2 := nm2 n (n + 1) b (by omega) (by omega)
  sep2_1 := nm2 (n + 1) n a (by omega) (by omega)
theorem zle (n c : Nat) (h : c ∈ [n + 4, n + 2, n + 3, n, n + 1]) : n ≤ c := by
  simp only [List.mem_cons, List.not_mem_nil, or_false] at h
  omega
theorem pi_zipM {X : Cx} {e e2 : Expr} {ta : TA} {p pos tpos : Pos} {elts : List Expr} {kk : Nat} (hg : Gl X "zip") (hm : X.mg "zip" = none) (ha : PA X [e, e2] ta)
    (hs : starEach [e, e2] X.env = (false, eval e X.env) :: starEach [e2] X.env := by rfl) (hpl : ((backTo pos (starEach [e2] X.env)).any fun x => x.1) = false := by rfl) :
    PI X (.Tuple elts kk tpos) (.Call (.Name "zip" p) [e, e2] [] pos) (iZipM X.K ta) := by
  refine ⟨fun pins s σ H R I h => ?_⟩
  refine Call_ (ld_blt I hg hm boot_zip (callWith_type1 (thn (ha.run pos pins s σ H _ I h) fun us s1 ⟨vs, H1, I1, r1, q1⟩ => ?_) hs hpl))
  obtain ⟨a, b, xs, ys, ex, hl, ht, q⟩ := q1
  subst ex
  obtain ⟨u, u2, rfl, ru, ru2⟩ := vals_two r1
  cases ru
  cases ru2
  obtain ⟨its, rv, pl, hz⟩ := I1.list hl
  obtain ⟨its2, rv2, pt, hz2⟩ := I1.tuple ht
  have al : a < s1.heap.objs.size := by
    obtain ⟨o, ho, _⟩ := pl.isList
    exact Heap.lt_size ho
  have bl : b < s1.heap.objs.size := by
    obtain ⟨o, ho, _⟩ := pt
    exact Heap.lt_size ho
  refine zip_begins2 (begins_list a its.toArray) (begins_tuple b its2.toArray) pl.isList pt fun h' hz hTI hTO hi1 hi2 hsz hk => wpAny_pyIter_zip hz ?_
  have I2 : Inv X pins σ H1 { s1 with heap := h' } := I1.kept (t' := s1.toks) hk
  have ne : ∀ {c : Addr} {k : Nat}, c < s1.heap.objs.size → c ≠ s1.heap.objs.size + k := fun h => Nat.ne_of_lt (Nat.lt_of_lt_of_le h (Nat.le_add_right _ _))
  have Z := zsep _ _ _ al bl
  refine ⟨s1.heap.objs.size + 4, [s1.heap.objs.size + 4, s1.heap.objs.size + 2, s1.heap.objs.size + 3, s1.heap.objs.size, s1.heap.objs.size + 1], _, _, H1, rfl, I2, turn_zipM Z (Nat.ne_of_lt al) (ne bl),
    ⟨hz, hTI, ⟨_, _, hTO⟩, ⟨_, hi1, rfl, rfl⟩, ⟨_, hi2, rfl, rfl⟩⟩, fun c hc => ?_, q⟩
  have hle : s1.heap.objs.size ≤ c := zle _ _ hc
  exact I1.fpOk hle (I1.hok.fresh hle)
/-! ## the walks, for comprehensions (lc_it) -/
theorem walk_zipT {K : PySem.W.Frag} {a b : Addr} {xs ys : List V} {n : Nat} (h1 : xs.length = n) (h2 : ys.length = n) : Walk (RZ.ItzT K a b) n (fun H => SqT K H a xs ∧ SqT K H b ys) (YPair (fun i => xs[i]?) fun i => ys[i]?) where
  goes := fun i H hi ⟨g1, g2⟩ => ⟨xs, ys, xs[i]'(by omega), ys[i]'(by omega), g1, g2, List.getElem?_eq_getElem (by omega), List.getElem?_eq_getElem (by omega)⟩
  stops := fun H ⟨g1, g2⟩ => ⟨xs, ys, g1, g2, .inl (Nat.le_of_eq h1)⟩
  yields := fun i H x H' hi ⟨g1, g2⟩ ⟨T, u, v, e, hT, e2, q1, q2⟩ => ⟨T, u, v, e, hT, e2, q1 xs g1, q2 ys g2⟩
theorem walk_zipM {K : PySem.W.Frag} {a b : Addr} {xs ys : List V} {n : Nat} (h1 : xs.length = n) (h2 : ys.length = n) : Walk (ItzM K a b) n (fun H => SqL K H a xs ∧ SqT K H b ys) (YPair (fun i => xs[i]?) fun i => ys[i]?) where
  goes := fun i H hi ⟨g1, g2⟩ => ⟨xs, ys, xs[i]'(by omega), ys[i]'(by omega), g1, g2, List.getElem?_eq_getElem (by omega), List.getElem?_eq_getElem (by omega)⟩
  stops := fun H ⟨g1, g2⟩ => ⟨xs, ys, g1, g2, h1, h2⟩
  yields := fun i H x H' hi ⟨g1, g2⟩ ⟨T, u, v, e, hT, e2, q1, q2⟩ => ⟨T, u, v, e, hT, e2, q1 xs g1, q2 ys g2⟩
theorem i_zipM {K : PySem.W.Frag} {σ : L2.St} {H : Hp} {ta : TA} {R : It → Hp → Prop} (h : ta σ H fun vs H1 => ∃ a b xs ys, vs = [.ref a, .ref b] ∧ SqL K H1 a xs ∧ SqT K H1 b ys ∧ R (ItzM K a b) H1) : iZipM K ta σ H R := h
theorem i_zipA {K : PySem.W.Frag} {σ : L2.St} {H : Hp} {ta : TA} {R : It → Hp → Prop} (h : ta σ H fun vs H1 => ∃ a b xs ys, vs = [.ref a, .ref b] ∧ (SqL K H1 a xs ∧ SqL K H1 b ys ∧ R (Itz K a b) H1 ∨ SqT K H1 a xs ∧ SqT K H1 b ys ∧ R (RZ.ItzT K a b) H1)) : RZ.iZipA K ta σ H R := h
end Spk

set_option Elab.async false
set_option linter.all false
set_option maxRecDepth 100000
set_option maxHeartbeats 1000000
namespace Spk
open PySem PySem.Spec PyProof.Rows PySem.W L2
/-! ## a lone star beside keywords -/
section
variable {M : Model} {A : Around} {E : Value → Shared → Prop} {s : Shared}
theorem lone_kw {f : Value} {x : Sem Value} {pos : Pos} {keywords : List (Option Str × Sem Value)} {Q : Args → Shared → Prop} (hall : keywords.all (·.1.isSome) = true)
    (h : wpAny M A x (fun v s1 => wpAny M A (evalAll (keywords.map (·.2))) (fun ks s2 => StarOf M A E v (fun vs s3 => Q ⟨vs, (keywords.filterMap (·.1)).zip ks⟩ s3) s2) E s1) E s) :
    wpAny M A (evalArgs f true [(true, (do let v ← x; standAt pos; pure v))] keywords) Q E s := by
  unfold evalArgs
  refine wpAny_bind (wpAny_bind (wpAny_mono h (fun v s1 h1 => wpAny_bind (wpAny_standAt (wpAny_pure ?_))) fun _ _ z => z))
  refine wpAny_bind (wpAny_pure ?_)
  dsimp only
  refine wpAny_holding ?_
  simp only [hall, if_true]
  refine wpAny_bind (wpAny_mono h1 (fun ks s2 h2 => ?_) fun _ _ z => z)
  unfold StarOf at h2
  refine wpAny_bind (wpAny_bind (wpAny_mono h2 (fun b s3 h3 => ?_) fun _ _ z => z))
  obtain ⟨rfl, h3⟩ := h3
  simp only [Bool.false_eq_true, if_false]
  exact wpAny_holding (wpAny_mono h3 (fun vs s4 h4 => wpAny_pure h4) fun _ _ z => z)
theorem star_kw_call {K : Frag} {f : Value} {first : List Value} {env : Env} {pos p : Pos} {e : Expr} {kws : List Keyword} {Q : Value → Shared → Prop} (hk : keepIn K f = true) (hall : (backToKw pos (keywordEach kws env)).all (·.1.isSome) = true)
    (h : wpAny M A (eval e env) (fun v s1 => wpAny M A (evalAll ((backToKw pos (keywordEach kws env)).map (·.2))) (fun ks s2 => StarOf M A E v (fun vs s3 => K.In s3.heap ∧ wpAny M A (call f (first ++ vs) (((backToKw pos (keywordEach kws env)).filterMap (·.1)).zip ks)) Q E s3) s2) E s1) E s)
    (he : starEach [.Starred e p] env = [(true, eval e env)]) : wpAny M A (callWith pos f first (backTo pos (starEach [.Starred e p] env)) (backToKw pos (keywordEach kws env))) Q E s := by
  rw [he]
  have z := lone_kw (f := f) (x := eval e env) (pos := pos) (keywords := backToKw pos (keywordEach kws env)) (Q := fun a s3 => K.In s3.heap ∧ wpAny M A (call f (first ++ a.pos) a.kw) Q E s3) hall h
  unfold callWith
  refine wpAny_bind (wpAny_holding (wpAny_mono z (fun a s1 h1 => wpAny_bind (wpAny_standAt ?_)) fun _ _ y => y))
  obtain ⟨k, hk', L⟩ := keeps_K (M := M) hk _ h1.1
  have hst : (backTo pos [(true, eval e env)]).any (·.1) = true := rfl
  simp only [hst, Bool.true_or]
  refine wpAny_bind (L.here ?_)
  have tail : ∀ {t : Sem Value}, wpAny M A t Q E s1 → wpAny M A (t >>= fun r => holding [r] point >>= fun _ => pure r) Q E s1 := by
    intro t ht
    exact wpAny_bind (wpAny_mono ht (fun r s2 hr => wpAny_bind (wpAny_holding (wpAny_point (wpAny_pure hr)))) fun _ _ y => y)
  have marked : ∀ mk : Value, wpAny M A (callMarked mk f (first ++ a.pos) a.kw) Q E s1 := by
    intro mk
    unfold callMarked
    exact Calls.wpAny_keep h1.2
  rcases hk' with rfl | rfl | rfl
  · exact tail (marked _)
  · exact tail (wpAny_operating h1.2)
  · exact tail (wpAny_operating h1.2)
end
/-! ## defs that are called with keywords alone beside a star -/
/-- the promise of a def that is called with these keywords: of the positional values and of those of the keywords -/
def FnK (P : Program) (w : World) (K : Frag) (mg : Str → Option Value) (base : Heap) (CX : CXT) (k : Nat) (f : Addr) (ks : List Str) (sp : List V → List V → Hp → VK → XK → Prop) : Prop :=
  ∀ (A : Around) (outer : List Env) (s : Shared) (H : Hp) (us ws : List Value) (vs zs : List V) (Q : VK) (E : XK), Room k A → Env0 P w K mg base A outer s H → Vals vs us → Vals zs ws → zs.length = ks.length → sp vs zs H Q E →
    codeAny (model P w) A (.call (.ref f) ⟨us, ks.zip ws⟩) (CR CX outer P w H s Q E) s
section
variable {CX : CXT} {P : Program} {w : World} {K : Frag} {mg : Str → Option Value} {base : Heap} {k : Nat} {f : Addr} {name qual : Str} {params : Arguments} {body : List Stmt} {scope : Scope} {dV kV doc pm cdv ct oc : Value} {an od : Option Addr}
  {osl : Array (Option Value)} {N ps ks : List Str} {sp : Sp}
/-- def f(a, .., *v, x, y, ..), called f(a, .., *rest, x = .., y = .., ..): what is left over is a new tuple -/
theorem fn_starK {pv : Str} (lk : K.lookup f = some ⟨oc, od, .func (fnOf name qual params body scope dV kV doc pm an cdv ct), osl⟩) (hcd : codeIn K cdv qual = true) (S : FnScope N (ps ++ ks ++ [pv]) scope) (hCX : StX.CXUp CX)
    (hb : ∀ us rest ws : List Value, us.length = ps.length → ws.length = ks.length → bindArgs (fnOf name qual params body scope dV kV doc pm an cdv ct) ⟨us ++ rest, ks.zip ws⟩ = (newTuple rest >>= fun t => pure ((ps ++ ks).zip (us ++ ws) ++ [(pv, t)])))
    (hbody : ∀ (A : Around) (outer : List Env) (s : Shared) (H : Hp) (vs : List V) (Q : VK) (E : XK), Room k (A.deeper (envOfC qual scope s.heap.objs.size f cdv)) → sp vs H Q E →
      ∃ t, PSs (cxOf CX P w K mg base N qual scope f cdv A outer s H E) body t ∧ t { nx := fun _ H1 => Q .non H1, rt := Q } (L2.start N vs) H) :
    FnK P w K mg base CX (k + 1) f ks (fun vs zs H Q E => ∃ ws rest, vs = ws ++ rest ∧ ws.length = ps.length ∧ rest.length ≤ sizeLine ∧ ∀ p o, H p = Option.none → o.cls = .type "tuple" → o.dict = Option.none → sp (ws ++ zs ++ [V.ref p]) (upd H p (.frz o (.tup rest))) Q E) := by
  intro A outer s H us wz vs zs Q E hr e0 r rz lz hsp
  obtain ⟨ws, rest, ev, hl, hz, hq⟩ := hsp
  subst ev
  obtain ⟨u1, u2, eu, r1, r2⟩ := StX.vals_split r
  subst eu
  have fresh : H s.heap.objs.size = Option.none := e0.hok.fresh (Nat.le_refl _)
  have l1 : u1.length = ps.length := by
    rw [← r1.length]
    exact hl
  have l2 : u2.length ≤ sizeLine := by
    rw [← r2.length]
    exact hz
  have l3 : wz.length = ks.length := by
    rw [← rz.length]
    exact lz
  refine StX.run_bnd lk hcd S hr e0 (G := fun xs H2 => ∃ p o, H p = Option.none ∧ o.cls = .type "tuple" ∧ o.dict = Option.none ∧ xs = ws ++ zs ++ [V.ref p] ∧ H2 = upd H p (.frz o (.tup rest))) ?_ ?_
  · intro A2 Ex Q2 h
    rw [hb u1 u2 wz l1 l3]
    refine wpAny_bind (wpAny_newTuple (wpAny_pure ?_) l2)
    have new : ObjOk P w (upd H s.heap.objs.size (.frz ({ cls := .type "tuple", data := .seq u2.toArray } : Obj) (.tup rest))) (s.heap.push ({ cls := .type "tuple", data := .seq u2.toArray } : Obj)) s.heap.objs.size (.frz ({ cls := .type "tuple", data := .seq u2.toArray } : Obj) (.tup rest)) := ⟨Heap.get?_push_size _ rfl, hz, u2, r2, ⟨_, Heap.get?_push_size _ rfl, rfl, _, rfl⟩⟩
    have un := StX.un_laid (fs := frs outer) (s := s) (o := ({ cls := .type "tuple", data := .seq u2.toArray } : Obj)) (u := .frz ({ cls := .type "tuple", data := .seq u2.toArray } : Obj) (.tup rest)) fresh
    have z := h _ _ (ws ++ zs ++ [V.ref s.heap.objs.size]) (u1 ++ wz ++ [Value.ref s.heap.objs.size]) (StX.env0_laid e0 new) un rfl (fun e s2 => hCX outer s H _ _ E e s2 un (fun b o q => Heap.get?_push_of_some _ q) rfl) ((r1.append rz).append (.cons rfl .nil))
      (by simp [hl, lz]) ⟨_, _, fresh, rfl, rfl, rfl, rfl⟩
    rw [List.zip_append (by simp [l1, l3])] at z
    exact z
  · intro s2 H2 xs g hr2
    obtain ⟨p, o, hp, oc, od, ex, eH⟩ := g
    subst ex eH
    exact hbody A outer s2 _ _ Q E hr2 (hq p o hp oc od)
end
/-- C(*e, x = .., ..): a new instance and its dict, then __init__ -/
def tMakeSK (K : Frag) (C : Addr) (m : Nat) (sp : List V → List V → Hp → VK → XK → Prop) (E : XK) (te : TE) (tk : TA) : TE := fun σ H Q => te σ H fun y H1 => ∃ a xs, y = V.ref a ∧ tk σ H1 fun zs H2 => (SqT K H2 a xs ∨ SqL K H2 a xs) ∧ zs.length = m ∧
  ∀ x dx, H2 x = Option.none → H2 dx = Option.none → dx ≠ x → sp (V.ref x :: xs) zs (upd (upd H2 dx (.own x)) x (.ins C dx [])) (fun v H3 => v = .non ∧ Q (.ref x) H3) E
section
variable {X : Cx} {CX : CXT} {k : Nat} {f C : Addr} {ks : List Str} {sp : List V → List V → Hp → VK → XK → Prop} {E : XK} {x : Str} {p sp_ pos : Pos} {e : Expr} {kws : List Keyword} {te : TE} {tk : TA}
theorem pe_makeSK (M : Mk X.K C f) (F : FnK X.prog X.w X.K X.mg X.base CX k f ks sp) (hr : Room (k + 1) X.A) (hg : Gl X x) (hm : X.mg x = some (.ref C)) (hx : Passes CX X E) (he : PE X e te) (hkw : PK X kws tk)
    (hall : (backToKw pos (keywordEach kws X.env)).all (·.1.isSome) = true := by rfl) (hks : (backToKw pos (keywordEach kws X.env)).filterMap (·.1) = ks := by rfl) (hdb : (x == ("__debug__" : Str)) = false := by decide)
    (hst : starEach [.Starred e sp_] X.env = [(true, eval e X.env)] := by rfl) : PE X (.Call (.Name x p) [.Starred e sp_] kws pos) (tMakeSK X.K C ks.length sp E te tk) := by
  constructor
  intro pins s σ H Q I h
  refine wpAny_Call_Name_kw (ld_glob I hg hm ?_ hdb)
  refine star_kw_call M.kp hall (thn (he.run pins s σ H _ I h) ?_) hst
  intro v s1 z1
  obtain ⟨y, H1, I1, ry, a, xs, ey, q1⟩ := z1
  subst ey
  obtain rfl : v = Value.ref a := ry
  refine thn (hkw.run pos pins s1 σ H1 _ I1 q1) ?_
  intro ws s2 z2
  obtain ⟨zs, H2, I2, rz, sq, l2, q2⟩ := z2
  refine StX.star_any I2 sq ?_
  intro us s3 I3 rv
  refine ⟨I3.kIn, ?_⟩
  rw [hks]
  have hq := q2 (s3.heap.objs.size + 1) s3.heap.objs.size (I3.hok.fresh (Nat.le_succ _)) (I3.hok.fresh (Nat.le_refl _)) (Nat.ne_of_lt (Nat.lt_succ_self _))
  have J := Inv.made (C := C) I3
  have rv' : Vals (V.ref (s3.heap.objs.size + 1) :: xs) (Value.ref (s3.heap.objs.size + 1) :: us) := .cons rfl rv
  refine wpAny_call (make_map (f := f) I3.kIn M.makes M.init (beq_iff_eq.mp M.fn) (codeAny_mono (F _ X.stack _ _ (Value.ref (s3.heap.objs.size + 1) :: us) ws _ _ _ E (hr.make C us (ks.zip ws)) (J.env0.make C us (ks.zip ws)) rv' rz l2 hq) ?_))
  intro r s4 hr4
  match r, hr4 with
  | .error er, hr4 => exact hx pins σ _ _ er s4 J hr4
  | .ok .next, hr4 => exact hr4.elim
  | .ok .brk, hr4 => exact hr4.elim
  | .ok .cont, hr4 => exact hr4.elim
  | .ok (.ret u), hr4 =>
    obtain ⟨v, H3, J3, rv3, ev, q3⟩ := J.after hr4
    subst ev
    exact ⟨rv3, ⟨V.ref (s3.heap.objs.size + 1), H3, J3, rfl, q3⟩⟩
end
end Spk

set_option Elab.async false
set_option linter.all false
set_option maxRecDepth 100000
set_option maxHeartbeats 1000000
namespace Spk
open PySem PySem.Spec PyProof.Rows PySem.W L2 ClX
/-! ## C.m(e, .., k = v, ..), m a classmethod -/
def tCMethK (C : Addr) (n m : Nat) (sp : Sp) (gV : List V → List V → List V) (E : XK) (ta : TE) (t tk : TA) : TE := fun σ H Q => ta σ H fun x H1 => x = .ref C ∧ t σ H1 fun vs H2 => tk σ H2 fun zs H3 => vs.length = n ∧ zs.length = m ∧ sp (gV (.ref C :: vs) zs) H3 Q E
section
variable {X : Cx} {CX : CXT} {k n : Nat} {C p g : Addr} {fd : FuncData} {mc : Value} {sp : Sp} {E : XK} {m : Str} {ps ks : List Str} {gg : List Value → List Value → List Value} {gV : List V → List V → List V} {pos apos : Pos} {e o : Expr} {es : List Expr} {kws : List Keyword} {ta : TE} {t tk : TA}
theorem pe_cmethK {pl : Sem Bool} (he : PE X o ta) (r : CRead X.K C mc) (c : CMet X.K C mc m p g) (F : FnOk X.prog X.w X.K X.mg X.base CX k g fd ps sp) (hb : KBn X.K fd ps (n + 1) ks gg gV) (hr : Room k X.A) (hx : Passes CX X E) (ha : PA X (e :: es) t) (hk : PK X kws tk)
    (hall : (backToKw pos (keywordEach kws X.env)).all (·.1.isSome) = true := by rfl) (hks : (backToKw pos (keywordEach kws X.env)).filterMap (·.1) = ks := by rfl)
    (hse : starEach (e :: es) X.env = (false, eval e X.env) :: starEach es X.env := by rfl)
    (hpl : (((backTo pos (starEach (e :: es) X.env)).any fun x => x.1) || (backToKw pos (keywordEach kws X.env)).any fun x => x.1.isNone) = false := by rfl)
    (ht : eval (.Call (.Attribute o m apos) (e :: es) kws pos) X.env = (do
      let ov ← eval o X.env
      standAt apos.atName
      let (f, first) ← holding [ov] (getMethod ov m pl)
      callWith pos f first (backTo pos (starEach (e :: es) X.env)) (backToKw pos (keywordEach kws X.env))) := by rfl) :
    PE X (.Call (.Attribute o m apos) (e :: es) kws pos) (tCMethK C n ks.length sp gV E ta t tk) := by
  refine ⟨fun pins s σ H Q I h => ?_⟩
  refine PySem.W.methodCall_KW (pl := pl) (thn (he.run pins s σ H _ I h) fun u s1 ⟨x, H1, I1, rx, ex, z⟩ => ?_) ht
  subst ex
  obtain rfl : u = Value.ref C := rx
  refine getmethcm_ok I1 r c fun s2 I2 => ?_
  refine callwith_met (a := C) (g := g) hpl c.fi (evalArgs_kw2 hall (thn (ha.run pos _ s2 σ _ _ I2 z) fun us s3 ⟨vs, H2, I3, rv, z2⟩ => ?_) hse)
  refine thn (hk.run pos _ s3 σ H2 _ I3 z2) fun ws s4 ⟨zs, H3, I4, rz, l1, l2, q⟩ => ?_
  refine ⟨⟨pin_at I4, I4.kIn⟩, ?_⟩
  rw [hks]
  have w1 : us.length = n := by rw [← rv.length]; exact l1
  have w2 : ws.length = ks.length := by rw [← rz.length]; exact l2
  have rv' : Vals (V.ref C :: vs) (Value.ref C :: us) := .cons rfl rv
  refine wpAny_call (PySem.W.method_call (pin_at I4) (codeAny_mono (F.run X.A X.stack s4 H3 ⟨Value.ref C :: us, ks.zip ws⟩ (gg (Value.ref C :: us) ws) _ _ E hr I4.env0 (hb.to s4 (Value.ref C :: us) ws I4.kIn (by rw [List.length_cons, w1]) w2) (hb.rel rv' rz) q) ?_))
  intro r5 s5 hr5
  match r5, hr5 with
  | .error er, hr5 => exact hx _ σ _ _ er s5 I4 hr5
  | .ok .next, hr5 => exact hr5.elim
  | .ok .brk, hr5 => exact hr5.elim
  | .ok .cont, hr5 => exact hr5.elim
  | .ok (.ret u5), hr5 => exact ClX.unpinE (I4.after hr5)
theorem i_cmk {C : Addr} {n m : Nat} {sp : Sp} {gV : List V → List V → List V} {E : XK} {ta : TE} {t tk : TA} {σ : L2.St} {H : Hp} {Q : VK} (h : ta σ H fun x H1 => x = .ref C ∧ t σ H1 fun vs H2 => tk σ H2 fun zs H3 => vs.length = n ∧ zs.length = m ∧ sp (gV (.ref C :: vs) zs) H3 Q E) : tCMethK C n m sp gV E ta t tk σ H Q := h
end
/-! ## a statement that is never reached -/
def tDead : TS := fun _ _ _ => False
theorem ps_dead {X : Cx} {st : Stmt} : PS X st tDead := ⟨fun _ _ _ _ _ _ h => h.elim⟩
end Spk

set_option Elab.async false
set_option linter.all false
set_option maxRecDepth 100000
set_option maxHeartbeats 1000000
namespace Spk
open PySem PySem.Spec PyProof.Rows PySem.W L2 HT
open PySem.Froz (SD sObj addTx tailTx TxOk)
/-! ## sets of texts: what tuple(sorted(set(t))) gives -/

/-- the payload may be walked: its places rise, its order is the world's -/
structure Walkable (w : World) (D : SD) : Prop where
  ris : Ris D.2.2.place.toList
  led : w.params.followText "set-order" = true ∨ D.2.2.led = true

theorem walk_tail {w : World} {ep : Nat} {es : Array (Int × Value)} {t : SetTable} {b : Bool} (r : Ris t.place.toList) (l : w.params.followText "set-order" = true ∨ t.led = true) :
    Walkable w (tailTx ep es t b) := by
  unfold tailTx
  split
  · exact ⟨relayAll_ris t es _, l.imp id fun z => (relayAll_led t es _).trans z⟩
  · exact ⟨r, l⟩
theorem walk_add {w : World} {D : SD} (x : Walkable w D) (h : Int) (v : Value) : Walkable w (addTx h v D) := by
  have r := layNew_ris D.2.2 D.1 h v x.ris
  have l : w.params.followText "set-order" = true ∨ (layNew D.2.2 D.1 h v).2.1.led = true := x.led.imp id fun z => (layNew_led D.2.2 D.1 h v).trans z
  unfold addTx
  split
  · exact walk_tail r l
  · exact walk_tail r l

/-- at a stands a set with just the texts l, none twice -/
def TxAt (P : Program) (w : World) (a : Addr) (l : List Str) (h : Heap) : Prop :=
  ∃ D : SD, h.get? a = some (sObj "set" D) ∧ TxOk P w D l ∧ l.Nodup ∧ Walkable w D

theorem TxAt.keep {P : Program} {w : World} {a : Addr} {l : List Str} {h h' : Heap} (x : TxAt P w a l h) (k : ∀ o, h.get? a = some o → h'.get? a = some o) : TxAt P w a l h' := by
  obtain ⟨D, e, r⟩ := x
  exact ⟨D, k _ e, r⟩

section
variable {P : Program} {w : World} {A : Around} {E : Value → Shared → Prop} {s : Shared} {a : Addr} {l : List Str}
/-- a text that is there already changes nothing -/
theorem put_old {D : SD} {k : Str} {u : Tok} {Q : Bool → Shared → Prop} (ho : s.heap.get? a = some (sObj "set" D)) (F : TxOk P w D l) (hk : k ∈ l) (hb : l.length < scanBound) (h : Q false s) :
    wpAny (model P w) A (setAddHashed a (.str k u) (hashStr w k)) Q E s := by
  obtain ⟨es, ep, t⟩ := D
  have hf : t.fits es.size = true := F.fit
  have hel : ElemsOf (strKind P w) es.toList := F.el
  have hsz : es.size = l.length := F.sz
  have hm : ∃ e ∈ es.toList, (strKind P w).is k e.2 = true := (F.mem k).mp hk
  have hn : List.findIdx? (fun e => (strKind P w).is k e.2) es.toList ≠ none := fun c => by
    obtain ⟨e, he, z⟩ := hm
    exact Bool.noConfusion (z.symm.trans (List.findIdx?_eq_none_iff.mp c e he))
  unfold setAddHashed setAddHashedIn
  refine wpAny_holding (wpAny_bind (wpAny_setState_of ho rfl hf ?_))
  dsimp only
  rw [byScan_of rfl (by omega) hel, if_pos rfl]
  unfold setAddByScan
  refine wpAny_bind (wpAny_bind (wpAny_rule (wpAny_bind (wpAny_setScan_of (knd := strKind P w) (k := k) (PySem.Froz.is_str k u) ho rfl hf hel ?_))))
  cases hr : List.findIdx? (fun e => (strKind P w).is k e.2) es.toList with
  | none => exact absurd hr hn
  | some j => exact wpAny_pure (wpAny_pure h)

/-- the texts behind one more -/
def withTx (l : List Str) (k : Str) : List Str := if k ∈ l then l else k :: l
theorem withTx_mem {l : List Str} {k x : Str} : x ∈ withTx l k ↔ x = k ∨ x ∈ l := by
  unfold withTx
  split
  · rename_i h
    exact ⟨.inr, fun z => z.elim (fun e => e ▸ h) id⟩
  · exact List.mem_cons
theorem withTx_len {l : List Str} {k : Str} : (withTx l k).length ≤ l.length + 1 := by
  unfold withTx
  split <;> simp
theorem tx_put {k : Str} {u : Tok} {Q : Bool → Shared → Prop} (x : TxAt P w a l s.heap) (hb : l.length + 1 < scanBound)
    (h : ∀ b h', TxAt P w a (withTx l k) h' → Heap.SameBut a s.heap h' → Q b { s with heap := h' }) :
    wpAny (model P w) A (setAddHashed a (.str k u) (hashStr w k)) Q E s := by
  obtain ⟨D, e, F, nd, wk⟩ := x
  by_cases hk : k ∈ l
  · refine put_old e F hk (by omega) ?_
    refine h false s.heap ?_ (Heap.SameBut.refl a s.heap)
    unfold withTx
    rw [if_pos hk]
    exact ⟨D, e, F, nd, wk⟩
  · refine PySem.Froz.add_x e F hk hb ?_
    refine h true _ ?_ (Heap.SameBut.update s.heap a _)
    unfold withTx
    rw [if_neg hk]
    exact ⟨_, PySem.Froz.get_upd _ e rfl, PySem.Froz.add_ok u F, List.nodup_cons.mpr ⟨hk, nd⟩, walk_add wk _ _⟩
/-- set.add's inner step with a text -/
theorem tx_add {k : Str} {u : Tok} {Q : Bool → Shared → Prop} (x : TxAt P w a l s.heap) (hb : l.length + 1 < scanBound)
    (h : ∀ b h', TxAt P w a (withTx l k) h' → Heap.SameBut a s.heap h' → Q b { s with heap := h', toks := s.toks + 1 }) :
    wpAny (model P w) A (setAdd a (.str k u)) Q E s := by
  unfold setAdd
  refine wpAny_holding (wpAny_bind ((strKind P w).pyHash (k := k) (strKind_is _ _ _ _) ?_))
  refine tx_put (s := { s with toks := s.toks + 1 }) x hb fun b h' y sb => ?_
  exact h b h' y sb
end

/-- the texts of a row, each once -/
def onceTx : List Str → List Str → List Str := fun l xs => xs.foldl withTx l
theorem onceTx_mem : ∀ (xs l : List Str) (x : Str), x ∈ onceTx l xs ↔ x ∈ xs ∨ x ∈ l
  | [], l, x => by simp [onceTx]
  | y :: ys, l, x => by
    show x ∈ onceTx (withTx l y) ys ↔ _
    rw [onceTx_mem ys, withTx_mem, List.mem_cons]
    constructor
    · rintro (z | z | z)
      · exact .inl (.inr z)
      · exact .inl (.inl z)
      · exact .inr z
    · rintro ((z | z) | z)
      · exact .inr (.inl z)
      · exact .inl z
      · exact .inr (.inr z)
theorem onceTx_len : ∀ (xs l : List Str), (onceTx l xs).length ≤ l.length + xs.length
  | [], l => Nat.le_refl _
  | y :: ys, l => by
    have a := onceTx_len ys (withTx l y)
    have b := withTx_len (l := l) (k := y)
    rw [List.length_cons]
    exact Nat.le_trans a (by omega)
theorem onceTx_snoc (l xs : List Str) (k : Str) : onceTx l (xs ++ [k]) = withTx (onceTx l xs) k := by
  unfold onceTx
  rw [List.foldl_append] <;> rfl
theorem onceTx_take (xs : List Str) {i : Nat} {k : Str} (h : xs[i]? = some k) : onceTx [] (xs.take (i + 1)) = withTx (onceTx [] (xs.take i)) k := by
  rw [List.take_add_one, h]
  exact onceTx_snoc [] _ k

section
variable {P : Program} {w : World} {A : Around} {E : Value → Shared → Prop}
/-- set.update's inner loop over a row of texts -/
theorem tx_loop {it S : Addr} {fp wr : List Addr} {G : Array GenState → Array GenState → Prop} {xs : List Str} {Pv : Nat → Value → Prop} {St : Nat → Shared → Prop} {R : Result → Shared → Prop}
    (W : WalksS P w A.in1 it fp wr G xs.length Pv St) (hS : S ∉ fp) (hb : xs.length + 1 < scanBound) (hv : ∀ i v, Pv i v → ∃ k u, xs[i]? = some k ∧ v = .str k u) :
    ∀ (m i : Nat) (s : Shared), m + i = xs.length → St i s → TxAt P w S (onceTx [] (xs.take i)) s.heap →
      (∀ s', Moved (S :: wr) G s s' → TxAt P w S (onceTx [] xs) s'.heap → R (.ok (.ret .none)) s') →
      codeAny (model P w) A (.builtin "set.update.loop" ⟨[.ref S, .ref it], []⟩) R s := by
  have sw : S ∉ wr := fun z => hS (W.sub _ z)
  have up : ∀ b ∈ wr, b ∈ S :: wr := fun b => List.mem_cons_of_mem S
  intro m
  induction m with
  | zero =>
    intro i s e st x k
    obtain rfl : i = xs.length := by omega
    refine codeAny_builtin F.entry_set_update_loop ?_
    rw [Around.under_plainId F.plain_set_update_loop _]
    show wpAny _ A.in1 (pyNext (.ref it) >>= _) _ _ s
    refine wpAny_bind (W.done s _ _ st fun s1 mv => wpAny_pure (k s1 (mv.mono up) ?_))
    rw [List.take_length] at x
    exact x.keep fun o => mv.heap S o sw
  | succ m ih =>
    intro i s e st x k
    refine codeAny_builtin F.entry_set_update_loop ?_
    rw [Around.under_plainId F.plain_set_update_loop _]
    show wpAny _ A.in1 (pyNext (.ref it) >>= _) _ _ s
    refine wpAny_bind (W.item i s _ _ (by omega) st fun v s1 pv st1 mv => ?_)
    obtain ⟨z, u, hz, rfl⟩ := hv i v pv
    have x1 := x.keep (h' := s1.heap) fun o => mv.heap S o sw
    have hl : (onceTx [] (xs.take i)).length + 1 < scanBound := by
      have q := onceTx_len (xs.take i) []
      rw [List.length_take] at q
      have : ([] : List Str).length = 0 := rfl
      omega
    show wpAny _ A.in1 (holding [Value.str z u] (setAdd S (.str z u)) >>= _) _ _ s1
    refine wpAny_bind (wpAny_holding (tx_add x1 hl fun b h' x2 sb => wpAny_pure ⟨plainId_quiet F.plain_set_update_loop _, ?_⟩))
    have old : ∀ c ∈ fp, ∀ o, s1.heap.get? c = some o → h'.get? c = some o := fun c hc o e => (sb.2 c fun z => hS (z ▸ hc)).trans e
    refine ih (i + 1) _ (by omega) (W.frame _ s1 _ _ st1 (Nat.le_succ _) old) (by rw [onceTx_take xs hz]; exact x2) fun s2 mv2 y => k s2 ?_ y
    exact Moved.trans W.gtrans ((mv.mono up).then_heap (Nat.le_succ _) fun c o hc e => (sb.2 c fun z => hc (by rw [z]; exact List.mem_cons_self)).trans e) mv2

/-- the object that set() lays down -/
def bare (w : World) : Obj := { cls := .type "set", dict := none, data := .set #[] 0 (.fresh 0 0 (!w.params.followText "set-order")) }
theorem bare_tx {h : Heap} {S : Addr} (e : h.get? S = some (bare w)) : TxAt P w S [] h :=
  ⟨(#[], 0, .fresh 0 0 (!w.params.followText "set-order")), e, PySem.Froz.TxOk.nil rfl, List.nodup_nil, ⟨List.Pairwise.nil, by
    show _ ∨ (!w.params.followText "set-order") = true
    cases w.params.followText "set-order" <;> simp⟩⟩

/-- what set(t) asks of its answer -/
def Done (P : Program) (w : World) (s : Shared) (xs : List Str) (s' : Shared) : Prop :=
  ∃ h' tk, s' = { s with heap := h', toks := tk } ∧ TxAt P w s.heap.objs.size (onceTx [] xs) h' ∧ ∀ b o, b < s.heap.objs.size → s.heap.get? b = some o → h'.get? b = some o

variable {s : Shared}
theorem tx_item : ∀ {us : List Value} {xs : List Str}, StrsAre us xs → ∀ (i : Nat) (v : Value), us[i]? = some v → ∃ k u, xs[i]? = some k ∧ v = .str k u
  | _, _, .cons y t _, 0, v, e => ⟨y, t, rfl, (Option.some.inj e).symm⟩
  | _, _, .cons y t r, i + 1, v, e => tx_item r i v e
/-- set.__init__ over a tuple of texts -/
theorem tx_init {l : Addr} {items : Array Value} {xs : List Str} (hh : A.handled = none) (hl : s.heap.IsTuple l items) (hi : StrsAre items.toList xs) (hb : xs.length + 1 < scanBound) :
    codeAny (model P w) A (.call (.builtin "set.__init__") ⟨[.ref s.heap.objs.size, .ref l], []⟩) (wants (fun r s' => r = .none ∧ Done P w s xs s') E) { s with heap := s.heap.push (bare w) } := by
  have hS : (s.heap.push (bare w)).get? s.heap.objs.size = some (bare w) := Heap.get?_push_size _ rfl
  have hT : Shared.TypeIs { s with heap := s.heap.push (bare w) } (.ref s.heap.objs.size) "set" := ⟨_, hS, rfl⟩
  obtain ⟨ol, hol, hcl, nl, hdl⟩ := hl
  have hlS : l < s.heap.objs.size := Heap.lt_size hol
  have hol' : (s.heap.push (bare w)).get? l = some ol := Heap.get?_push_of_some _ hol
  have hTl : Shared.TypeIs { s with heap := s.heap.push (bare w) } (.ref l) "tuple" := ⟨_, hol', hcl⟩
  have hl1 : (s.heap.push (bare w)).IsTuple l items := ⟨_, hol', hcl, nl, hdl⟩
  have n1 := F.sub_tuple_set
  have n2 := F.sub_tuple_frozenset
  have n3 : (Value.type "tuple" == Value.type "dict") = false := by decide
  refine codeAny_call_builtin F.called_set.init.plain F.entry_set_init (check_set_init_1 hT ?_)
  unfold Builtin.«set.__init__» noKeywords Builtin.Frozenset.updateFrom
  generalize hPI : pyIter = PI
  wp_walk
  subst hPI
  refine wpAny_pyIter_tuple hl1 (wpAny_bind (wpAny_runValue ?_))
  have sz : (s.heap.push (bare w)).objs.size = s.heap.objs.size + 1 := Heap.size_push ..
  have he : ∀ (i : Nat) (v : Value), items[i]? = some v → ∃ k u, xs[i]? = some k ∧ v = .str k u := fun i v hv => by
    have hv' : items.toList[i]? = some v := by rw [Array.getElem?_toList]; exact hv
    exact tx_item hi i v hv'
  have hn : items.size = xs.length := by rw [← StrsAre.len_eq hi, Array.length_toList]
  have W := (Walks.tuple (prog := P) (w := w) (A := A.in1.in1) (by simp [hh]) (s.heap.push (bare w)).objs.size l (by rw [sz]; exact Nat.ne_of_lt (Nat.lt_succ_of_lt hlS)) items).toS
  rw [hn] at W
  have out : s.heap.objs.size ∉ [(s.heap.push (bare w)).objs.size, l] := by
    rw [sz]
    simp only [List.mem_cons, List.not_mem_nil, or_false, not_or]
    exact ⟨Nat.ne_of_lt (Nat.lt_succ_self _), Nat.ne_of_gt hlS⟩
  refine tx_loop (A := A.in1) W out hb he xs.length 0 _ (by omega) ⟨⟨_, Heap.get?_push_size _ rfl, rfl, rfl⟩, hl1.push _⟩ (bare_tx (Heap.get?_push_of_some _ hS)) fun s' mv y => ?_
  refine wpAny_pure (wpAny_pure ⟨rfl, s'.heap, s'.toks, ?_, y, fun b o hlt e => ?_⟩)
  · obtain ⟨h', g', d', tk', os'⟩ := s'
    obtain rfl : g' = s.gens := mv.gens
    obtain rfl : d' = s.drawn := mv.drawn
    obtain rfl : os' = s.os := mv.os
    rfl
  · refine mv.heap b o (fun z => ?_) (Heap.get?_push_of_some _ (Heap.get?_push_of_some _ e))
    simp only [List.mem_cons, List.not_mem_nil, or_false] at z
    rcases z with z | z
    · exact absurd z (Nat.ne_of_lt hlt)
    · exact absurd (z.trans sz) (Nat.ne_of_lt (Nat.lt_succ_of_lt hlt))
/-- set(t), t a tuple of texts -/
theorem call_tx {l : Addr} {items : Array Value} {xs : List Str} {Q : Value → Shared → Prop} (hh : A.handled = none) (hl : s.heap.IsTuple l items) (hi : StrsAre items.toList xs) (hb : xs.length + 1 < scanBound)
    (h : ∀ s', Done P w s xs s' → Q (.ref s.heap.objs.size) s') : wpAny (model P w) A (call (.type "set") [.ref l]) Q E s := by
  obtain ⟨c, tl, hmro⟩ := F.called_set.mro
  have i1 := F.called_set.made
  have i2 := F.called_set.sub
  have i3 := F.called_set.notType
  have i4 := F.called_set.canCreate
  have i5 := F.typeCall_set_1 (.ref l)
  refine wpAny_call (codeAny_of_tree ?_)
  show wpAny _ _ (callAny (.type "set") _) _ _ _
  refine wpAny_pure ⟨Code.quiet_builtin _ (by decide +kernel), codeAny_builtin F.entry_type_call ?_⟩
  rw [Around.under_plain (weight_type_call_type "set" [.ref l] []) rfl]
  repeat (any_goals (first | assumption | wp_step))
  refine codeAny_mono (code_set_led1 (.ref l) (E := E) (Q₁ := fun v s1 => v = .ref s.heap.objs.size ∧ s1 = { s with heap := s.heap.push (bare w) }) ⟨rfl, rfl⟩) fun r s1 hr => ?_
  match r, hr with
  | .error e, hr => exact hr
  | .ok (.ret v), ⟨e1, e2⟩ =>
    subst e1
    subst e2
    have hT : Shared.TypeIs { s with heap := s.heap.push (bare w) } (.ref s.heap.objs.size) "set" := ⟨_, Heap.get?_push_size _ rfl, rfl⟩
    have j1 := F.called_set.init.lookup
    have j2 := F.called_set.init.bind (.ref s.heap.objs.size)
    repeat (any_goals (first | assumption | wp_step))
    refine codeAny_mono (tx_init (E := E) hh hl hi hb) fun r2 s2 hr2 => ?_
    match r2, hr2 with
    | .error e, hr2 => exact hr2
    | .ok (.ret v), ⟨e3, dn⟩ =>
      subst e3
      repeat (any_goals (first | assumption | wp_step))
      exact h s2 dn
end
/-! ### in the user's terms -/
/-- the set of texts at a -/
def TxO (P : Program) (w : World) (a : Addr) (l : List Str) : HO := .ext fun h => TxAt P w a l h
section
variable {X : Cx}
theorem txO_get {pins : List (Addr × Obj)} {σ : L2.St} {H : Hp} {s : Shared} {a : Addr} {l : List Str} (I : Inv X pins σ H s) (ha : H a = some (TxO X.prog X.w a l)) : TxAt X.prog X.w a l s.heap := (I.hok a _ ha).1
theorem txO_new {P : Program} {w : World} {H : Hp} {h : Heap} {a : Addr} {l : List Str} (R : TxAt P w a l h) : ObjOk P w H h a (TxO P w a l) := by
  obtain ⟨D, e, _⟩ := id R
  exact ⟨R, ⟨_, e⟩, fun h1 h2 p k => p.keep k⟩
/-- set(t) of a tuple of texts -/
def rTxSet (K : PySem.W.Frag) (P : Program) (w : World) : List V → Hp → VK → Prop := fun vs H Q => ∃ (a : Addr) (xs : List Str), vs = [V.ref a] ∧ SqT K H a (xs.map V.str) ∧ xs.length ≤ 1000 ∧
  ∀ p, H p = none → Q (.ref p) (upd H p (TxO P w p (onceTx [] xs)))
theorem cr_txSet (hc : X.calm = true) : CallR X (.type "set") (rTxSet X.K X.prog X.w) := by
  intro pins s σ H vs us Q I r h
  obtain ⟨a, xs, rfl, hs, hl, q⟩ := h
  obtain ⟨its, rv, pt, hz⟩ := I.tuple hs
  rw [Vals.ref1 r]
  refine call_tx (items := its.toArray) (xs := xs) (I.ok.hd hc) (show s.heap.IsTuple a its.toArray from pt) (strsAre_of rv) (by unfold scanBound; omega) fun s' dn => ?_
  obtain ⟨h', tk, rfl, tx, keep⟩ := dn
  exact ⟨.ref _, upd H s.heap.objs.size (TxO X.prog X.w s.heap.objs.size (onceTx [] xs)), I.laid (t' := tk) (fun b u e => keep b u (Heap.lt_size e) e) (Nat.le_refl _) (txO_new tx), rfl, q _ (I.hok.fresh (Nat.le_refl _))⟩
end
/-! ### sorted -/
theorem perm_of_nodup {α : Type} [DecidableEq α] : ∀ (l zs : List α), l.Nodup → (∀ x ∈ l, x ∈ zs) → zs.length ≤ l.length → zs.Perm l
  | [], zs, _, _, h => by
    have e : zs = [] := List.eq_nil_of_length_eq_zero (Nat.le_zero.mp h)
    rw [e]
  | x :: l, zs, nd, hm, h => by
    obtain ⟨hx, nd'⟩ := List.nodup_cons.mp nd
    have mx : x ∈ zs := hm x List.mem_cons_self
    have pe := List.perm_cons_erase mx
    have le : (zs.erase x).length ≤ l.length := by
      have a := pe.length_eq
      rw [List.length_cons] at a h
      omega
    refine pe.trans (List.Perm.cons x (perm_of_nodup l (zs.erase x) nd' (fun y hy => ?_) le))
    have ne : y ≠ x := fun z => hx (by rw [← z]; exact hy)
    exact (List.mem_erase_of_ne ne).mpr (hm y (List.mem_cons_of_mem x hy))
/-- the text that a value is -/
def txOf : Value → Str
  | .str x _ => x
  | _ => Str.empty
theorem strs_txOf : ∀ us : List Value, (∀ u ∈ us, ∃ x t, u = Value.str x t) → StrsAre us (us.map txOf)
  | [], _ => .nil
  | u :: us, h => by
    obtain ⟨x, t, rfl⟩ := h u List.mem_cons_self
    exact .cons x t (strs_txOf us fun v hv => h v (List.mem_cons_of_mem _ hv))
theorem tx_rows {P : Program} {w : World} {es : Array (Int × Value)} {ep : Nat} {t : SetTable} {l : List Str} {us : List Value} (F : TxOk P w (es, ep, t) l) (nd : l.Nodup) (pm : us.Perm (es.toList.map (·.2))) :
    StrsAre us (us.map txOf) ∧ (us.map txOf).Perm l := by
  have all : ∀ u ∈ us, ∃ x t, u = Value.str x t := fun u hu => by
    obtain ⟨e, he, rfl⟩ := List.mem_map.mp (pm.mem_iff.mp hu)
    obtain ⟨⟨k, hk, _⟩, _⟩ := F.el e he
    obtain ⟨t, ev⟩ := Value.isStrOf_shape (x := k) (v := e.2) hk
    exact ⟨k, t, ev⟩
  refine ⟨strs_txOf us all, perm_of_nodup l _ nd (fun x hx => ?_) ?_⟩
  · obtain ⟨e, he, q⟩ := (F.mem x).mp hx
    obtain ⟨t, ev⟩ := Value.isStrOf_shape (x := x) (v := e.2) q
    refine List.mem_map.mpr ⟨e.2, pm.mem_iff.mpr (List.mem_map.mpr ⟨e, he, rfl⟩), ?_⟩
    rw [ev] <;> rfl
  · have z : es.size = l.length := F.sz
    rw [List.length_map, pm.length_eq, List.length_map, Array.length_toList]
    omega
section
variable {X : Cx}
/-- sorted(s) of a set of fewer than 64 texts -/
def rTxSorted (P : Program) (w : World) : List V → Hp → VK → Prop := fun vs H Q => ∃ (a : Addr) (l : List Str), vs = [V.ref a] ∧ H a = some (TxO P w a l) ∧ l.length < 64 ∧
  ∀ ys p, ys.Perm l → sortedS ys = true → H p = none → Q (.ref p) (upd H p (.lst (ys.map V.str)))
theorem cr_txSorted (hc : X.calm = true) : CallR X (.builtin "sorted") (rTxSorted X.prog X.w) := by
  intro pins s σ H vs us Q I r h
  obtain ⟨a, l, rfl, ha, h64, q⟩ := h
  obtain ⟨⟨es, ep, t⟩, ho, F, nd, wk⟩ := txO_get I ha
  have hsz : es.size = l.length := F.sz
  rw [Vals.ref1 r]
  refine Calls.call_function_entry PyProof.Rows.kind_sorted PyProof.Rows.plain_sorted PyProof.Rows.entry_sorted (PyProof.Rows.args_sorted1 _) ?_
  unfold Builtin.«sorted»
  refine wpAny_bind (m := checkCount "sorted" 1 1 _) (wpAny_pure (wpAny_bind (collect_set (A := X.A.in1) (I.ok.hd hc) ⟨_, ho, rfl, rfl⟩ F.fit (by rw [hsz]; unfold scanBound; omega) wk.ris wk.led fun s1 vs k1 hz g1 o1 pm => ?_)))
  obtain ⟨hS, pl⟩ := tx_rows F nd pm
  have hvl : vs.length = l.length := by
    have e := pl.length_eq
    rw [List.length_map] at e
    exact e
  refine wpAny_bind (wpAny_newList ?_ (by rw [hvl, sizeLine_eq]; omega))
  have hoL : (s1.heap.push (seqObj "list" vs.toArray 0)).get? s1.heap.objs.size = some (seqObj "list" vs.toArray 0) := Heap.get?_push_size _ rfl
  refine wpAny_bind (wpAny_holding (wpAny_call_entry PyProof.Rows.slot_list_sort ⟨_, hoL, rfl⟩ PyProof.Rows.entry_list_sort
    (list_sort_treeK strKind_oneLt hoL hS.keysOf (fun v1 v2 rest e => keyKind_strs (by rw [← e]; exact hS)) (by rw [hvl]; exact h64) fun st' hp hs => ⟨_, rfl, ?_⟩) (PyProof.Rows.args_list_sort _)))
  obtain ⟨ys, y1, y2, y3⟩ := sorted_out_str hS hp hs
  obtain ⟨e', he'⟩ := PyProof.Rows.sortedHeap_at (vs := vs) (out := (arrOf st').map (·.2)) hoL
  have yl : ys.Perm l := y2.trans pl
  have len : (ys.map V.str).length ≤ sizeLine := by
    rw [List.length_map, yl.length_eq, sizeLine_eq]
    omega
  have old : ∀ b u, s.heap.get? b = some u → (sortedHeap (s1.heap.push (seqObj "list" vs.toArray 0)) s1.heap.objs.size vs ((arrOf st').map (·.2))).get? b = some u := fun b u e => by
    have lt := Heap.lt_size (k1 b u e)
    rw [PyProof.Rows.sortedHeap_old (Nat.ne_of_lt lt) (by rw [size_push']; exact Nat.lt_succ_of_lt lt)]
    exact Heap.get?_push_of_some _ (k1 b u e)
  have J : Inv X pins σ (upd H s1.heap.objs.size (.lst (ys.map V.str))) { s with heap := sortedHeap (s1.heap.push (seqObj "list" vs.toArray 0)) s1.heap.objs.size vs ((arrOf st').map (·.2)), gens := s1.gens, drawn := s1.drawn, toks := s1.toks } :=
    I.call (ch := []) (Un.laid old hz (I.hok.fresh hz)) (I.hok.laid old hz ⟨len, ((arrOf st').map (·.2)).toList, e', vals_of_strs y1, by rw [Array.toArray_toList]; exact he'⟩) (by rw [g1]; exact I.bare) (fun _ z => nomatch z)
  refine wpAny_pure ⟨_, rfl, .ref s1.heap.objs.size, _, ?_, rfl, q ys _ yl y3 (I.hok.fresh hz)⟩
  obtain ⟨h1, gg1, d1, t1, os1⟩ := s1
  obtain ⟨h0, g0, d0, t0, os0⟩ := s
  cases o1
  exact J
end
end Spk

set_option Elab.async false
set_option linter.all false
set_option maxRecDepth 100000
set_option maxHeartbeats 1000000
namespace Spk
open PySem PySem.Spec PyProof.Rows PySem.W L2 HT
open PySem.Froz (SD sObj TxOk)
/-! ## len(s), s a set of texts -/
def rTxLen (P : Program) (w : World) : List V → Hp → VK → Prop := fun vs H Q => ∃ (a : Addr) (l : List Str), vs = [V.ref a] ∧ H a = some (TxO P w a l) ∧ l.length ≤ 100000 ∧ Q (.int l.length) H
theorem cr_txLen {X : Cx} : CallR X (.builtin "len") (rTxLen X.prog X.w) := by
  intro pins s σ H vs us Q I r h
  obtain ⟨a, l, rfl, ha, hl, q⟩ := h
  rw [Vals.ref1 r]
  obtain ⟨⟨es, ep, t⟩, e, F, nd, wk⟩ := txO_get I ha
  refine call_len_set (o := sObj "set" (es, ep, t)) (es := es) (ep := ep) (t := t) e ?_ rfl F.fit ?_ ?_
  · exact ⟨rfl, rfl, rfl⟩
  · have := F.sz
    simp only at this
    omega
  · have z := F.sz
    simp only at z
    rw [z]
    exact ⟨.int l.length, H, I.kept (t' := s.toks + 1 + 1) fun b u x => x, ⟨_, rfl⟩, q⟩
/-- none twice: the set has as many -/
theorem onceTx_nodup : ∀ (xs l : List Str), (l.reverse ++ xs).Nodup → (onceTx l xs).length = l.length + xs.length
  | [], l, _ => by simp [onceTx]
  | x :: xs, l, h => by
    have hx : x ∉ l := fun hm => by
      rw [List.nodup_append] at h
      exact h.2.2 x (List.mem_reverse.mpr hm) x List.mem_cons_self rfl
    have e : onceTx l (x :: xs) = onceTx (x :: l) xs := by
      show List.foldl withTx (withTx l x) xs = _
      unfold withTx
      rw [if_neg hx]
      rfl
    rw [e, onceTx_nodup xs (x :: l) (by simpa using h)]
    simp only [List.length_cons]
    omega
end Spk

set_option Elab.async false
set_option linter.all false
set_option maxRecDepth 100000
set_option maxHeartbeats 1000000
namespace Spk
open PySem PySem.Spec PyProof.Rows L2
/-! ## try: .. except X as e: v = e, and v used behind it -/
section
variable {X : Cx}
theorem unsuiteP {pins pn' : List (Addr × Obj)} {σ : L2.St} {H : Hp} {s : Shared} {a : Addr} {oe : Obj} (S : L2.Inv (X.suite a ((a, oe) :: (X.pn ++ pins))) pn' σ H s) (ok : X.Ok) : L2.Inv X ((a, oe) :: pins) σ H s :=
  { Inv.unsuite S ok with
    pin := fun p hp => S.pin p (List.mem_append_left _ (by
      rcases List.mem_append.mp hp with h | h
      · exact List.mem_cons_of_mem _ (List.mem_append_left _ h)
      · rcases List.mem_cons.mp h with rfl | h
        · exact List.mem_cons_self
        · exact List.mem_cons_of_mem _ (List.mem_append_right _ h))) }
theorem dropPin {pins : List (Addr × Obj)} {q : Addr × Obj} {σ : L2.St} {H : Hp} {s : Shared} (J : L2.Inv X (q :: pins) σ H s) : L2.Inv X pins σ H s :=
  { J with
    pin := fun p hp => J.pin p (by
      rcases List.mem_append.mp hp with h | h
      · exact List.mem_append_left _ h
      · exact List.mem_append_right _ (List.mem_cons_of_mem _ h)) }
/-- what is wished of the body's error: the handler takes it; what follows is walked with the error kept at slot j -/
def wKeep (K : PySem.W.Frag) (c : Value) (j i : Nat) (u : Addr → Value → Option Addr → TS) (D : Ends) : WX := fun cls d σ H =>
  PySem.W.exmOne K cls c = some true ∧ ∀ a, H a = none → u a cls d D ((σ.set j (some (.ref a))).set i none) H
theorem sp_drop {pins : List (Addr × Obj)} {q : Addr × Obj} {D : Ends} {f : Flow} {s : Shared} (ok : X.Ok) (h : SP (X.tr (X.pn ++ q :: pins) X.xe) [] D f s) : SP X pins D f s := by
  cases f with
  | next =>
    obtain ⟨σ', H', J, q⟩ := h
    exact ⟨σ', H', dropPin (Inv.ofTry J ok), q⟩
  | brk =>
    obtain ⟨σ', H', J, q⟩ := h
    exact ⟨σ', H', dropPin (Inv.ofTry J ok), q⟩
  | cont =>
    obtain ⟨σ', H', J, q⟩ := h
    exact ⟨σ', H', dropPin (Inv.ofTry J ok), q⟩
  | ret w =>
    obtain ⟨v, σ', H', J, r, q⟩ := h
    exact ⟨v, σ', H', dropPin (Inv.ofTry J ok), r, q⟩
theorem pss_try_keep {x n : Str} {c : Value} {i j : Nat} {body rest suite : List Stmt} {b₀ : Stmt} {np pos pos' : Pos} {tb : WX → TS} {u0 : TS} {u : Addr → Value → Option Addr → TS} (hs : X.stack = X.env :: X.outer) (hf : X.env.frame = some X.env.locals) (hN : X.N.Nodup)
    (hi : X.N[i]? = some n) (hln : X.env.kindOf n = some .local) (hj : j < X.N.length) (hc : Names X x c)
    (hb : ∀ (W : WX) (pn : List (Addr × Obj)) (xe : Value → Shared → Prop), Takes (X.tr pn xe) W → PassesOwn (model X.prog X.w) X.A X.env xe → PSs (X.tr pn xe) body (tb W))
    (hsu : ∀ (a : Addr) (oe : Obj) (pn : List (Addr × Obj)), PSs (X.suite a ((a, oe) :: pn)) (b₀ :: suite) (tAsg (tVar i) (gName j)))
    (hr : PSs X rest u0) (hre : ∀ (a : Addr) (oe : Obj) (cls : Value) (d : Option Addr) (pn : List (Addr × Obj)), Zc cls d oe → (∃ vs, oe.data = .fields vs) → (a, oe) ∈ pn → PSs (X.tr pn X.xe) rest (u a cls d)) :
    PSs X (.Try body [.ExceptHandler (some (.Name x np)) (some n) (b₀ :: suite) pos'] [] [] pos :: rest) (fun D σ H => tb (wKeep X.K c j i u D) { D with nx := u0 D } σ H) := by
  refine ⟨fun pins s σ H D I h => ?_⟩
  have ok := I.ok
  have hfr : X.A.frames = some (X.env :: X.outer) := by rw [ok.frames, hs]
  have hloc : L2.Loc X.env.scope n := .inl hln
  refine wpAny_execs_cons (wpAny_Try_except (wpAny_mono ((hb (wKeep X.K c j i u D) (X.pn ++ pins) _ (fun w s' xx => ?_) PassesOwn.looking).run [] s σ H { D with nx := u0 D } (I.toTry _) h) (fun f s1 hsp => ?_) fun _ _ he => he))
  · obtain ⟨a, B, sI, pins', σ', H', cls, d, rfl, J', nb, up, sky, na, os, ag, hb1, hyes⟩ := xx
    have J := J'.ofTry ok
    have sky' : Sky B (X.env :: X.outer) a (Zc cls d) X.env.locals s'.heap := by
      rw [← hs]
      exact sky
    refine Sky.land Zc.steady hfr hf sky' fun h3 fl3 up3 => ?_
    have J3 : L2.Inv X pins σ' H' { s' with heap := h3 } := Inv.landed J nb fl3.1 (up.trans up3) os ag
    obtain ⟨oe3, vs3, he3, hz3, hd3⟩ := HandSPX.FlyingZ.there fl3
    have nfr : a ∉ frs (X.env :: X.outer) := fun hm => by
      obtain ⟨_, o', e', hnf⟩ := fl3.2.2.1.mem hm
      rw [he3] at e'
      cases e'
      exact hnf vs3 hd3
    have nL : a ≠ X.env.locals := fun z => nfr (List.mem_filterMap.mpr ⟨X.env, List.mem_cons_self, by rw [hf, z]⟩)
    have nF : a ∉ X.fs := fun hm => by
      obtain ⟨e, he, q⟩ := List.mem_filterMap.mp hm
      exact nfr (List.mem_filterMap.mpr ⟨e, List.mem_cons_of_mem _ he, q⟩)
    have S3 := Inv.suite J3 he3 hd3 na nL nF
    have LT : PySem.W.Looks (model X.prog X.w) h3 (typeOf (.ref a)) cls := fun A Q E s k q => wpAny_typeOf_ref (k a oe3 he3) (by rw [hz3.1]; exact q)
    have LM := W.exm_one (Inv.kIn J3) LT hb1
    obtain ⟨hg, hdbg, hm⟩ := hc
    refine wpAny_handleBy_cons (codeAny_handlers_test ?_) (fun q => nomatch q)
    have test : ∀ {Q E : Value → Shared → Prop}, Q c { s' with heap := h3 } → wpAny (model X.prog X.w) (X.A.mark (some (.ref a))) (eval (.Name x np) X.env) Q E { s' with heap := h3 } := fun {Q E} q => hm.elim (fun hm => ld_glob S3 hg hm q hdbg) fun h => ld_blt S3 hg h.1 h.2.1 q h.2.2 hdbg
    refine test (W.Looks.here LM ?_)
    show codeAny _ _ _ _ _
    refine codeAny_handlers_suite_as (HandSPX.lands_againZ fl3 fun h4 fl4 up4 => ?_)
    have J4 : L2.Inv X pins σ' H' { s' with heap := h4 } := Inv.landed J nb fl4.1 ((up.trans up3).trans up4) os ag
    obtain ⟨oe4, vs4, he4, hz4, hd4⟩ := HandSPX.FlyingZ.there fl4
    have S4 := Inv.suite J4 he4 hd4 na nL nF
    refine store_ok (X := X.suite a ((a, oe4) :: (X.pn ++ pins))) S4 hN hi hloc (show RelV (.ref a) (.ref a) from rfl) (fun s5 S5 => ?_) (.inr hln)
    have il : i < σ'.length := by
      rw [J.len]
      exact (List.getElem?_eq_some_iff.mp hi).1
    have jl : j < σ'.length := by
      rw [J.len]
      exact hj
    refine wpAny_mono ((hsu a oe4 (X.pn ++ pins)).run [] s5 (σ'.set i (some (.ref a))) H' { nx := fun σ6 H6 => σ6 = (σ'.set i (some (.ref a))).set j (some (.ref a)) ∧ H6 = H', rt := fun _ _ => False, bk := fun _ _ => False, ct := fun _ _ => False } S5 ⟨.ref a, by rw [List.getElem?_set_self il], rfl, rfl⟩) (fun f s6 hsp => ?_) (fun _ _ z => z.elim)
    cases f with
    | brk =>
      obtain ⟨_, _, _, q⟩ := hsp
      exact q.elim
    | cont =>
      obtain ⟨_, _, _, q⟩ := hsp
      exact q.elim
    | ret w =>
      obtain ⟨_, _, _, _, _, q⟩ := hsp
      exact q.elim
    | next =>
      obtain ⟨σ6, H6, S6, e1, e2⟩ := hsp
      subst e1 e2
      refine gone_ok (unsuiteP S6 ok) hN hi hln fun s7 J7 => ?_
      have q := hyes a na
      have es : ((σ'.set i (some (.ref a))).set j (some (.ref a))).set i none = (σ'.set j (some (.ref a))).set i none := by
        by_cases e : i = j
        · subst e
          simp only [List.set_set]
        · rw [List.set_comm _ _ e, List.set_set]
      rw [es] at J7
      exact wpAny_mono ((hre a oe4 cls d (X.pn ++ (a, oe4) :: pins) hz4 ⟨vs4, hd4⟩ (by simp)).run [] s7 _ H6 D (J7.toTry X.xe) q) (fun f s8 h8 => sp_drop ok h8) fun _ _ z => z
  · cases f with
    | next =>
      obtain ⟨σ', H', J', q⟩ := hsp
      exact wpAny_execs_nil (hr.run pins s1 σ' H' D (J'.ofTry ok) q)
    | brk =>
      obtain ⟨σ', H', J', q⟩ := hsp
      exact ⟨σ', H', J'.ofTry ok, q⟩
    | cont =>
      obtain ⟨σ', H', J', q⟩ := hsp
      exact ⟨σ', H', J'.ofTry ok, q⟩
    | ret w =>
      obtain ⟨v, σ', H', J', r, q⟩ := hsp
      exact ⟨v, σ', H', J'.ofTry ok, r, q⟩
/-- e.f, e an error that is pinned at a -/
theorem pe_xfP {a C : Addr} {oe : Obj} {cls : Value} {d : Option Addr} {e : Expr} {te : TE} {pos : Pos} {n : Str} (T : XfC X.K C) (hno : PySem.W.findIn X.K (.ref C) n = some none) (hz : Zc cls d oe) (hf : ∃ vs, oe.data = .fields vs) (hpin : (a, oe) ∈ X.pn) (he : PE X e te)
    (hb : attributeBase e n X.env (eval e X.env) = eval e X.env := by rfl) : PE X (.Attribute e n pos) (tXf a cls d C n te) := by
  refine ⟨fun pins s σ H Q I h => attr_of hb (thn (he.run pins s σ H _ I h) fun u s1 ⟨x, H1, I1, rx, ex, ec, dd, fs, v, ed, ea, l, q⟩ => ?_)⟩
  subst ex ec ed
  obtain rfl : u = Value.ref a := rx
  have ha := (I1.pin (a, oe) (List.mem_append_left pins hpin)).1
  obtain ⟨vs, hd⟩ := hf
  obtain ⟨mA, hns, hr⟩ := I1.hok dd (.xd fs) ea
  obtain ⟨od, ho, hl⟩ := lookIn_ns hns
  obtain ⟨u, hu, ru⟩ := RelO.some_of (by rw [← l]; exact hr n)
  have J : PySem.W.InstAt s1.heap a oe C (some od) := ⟨ha, hz.1, by unfold PySem.W.notCls; rw [hd], by rw [hz.2]; exact ho⟩
  exact HandSPX.exc_get I1.kIn J T.ga T.gg T.exC (PySem.W.findObj_own T.hdC hno rfl (by rw [hl n, hu])) (handed_of ru) ⟨v, H1, I1.tok (s1.toks + 1), ru, q⟩
/-- what the text says of an error's class, for isinstance -/
structure ExP (K : PySem.W.Frag) (C : Addr) : Prop where
  is : (PySem.W.clsIn K C).isSome = true
  ga : PySem.W.findIn K (.ref C) "__getattribute__" = some (some (.builtin "BaseException.__getattribute__"))
  gg : PySem.W.findIn K (.ref C) "__getattr__" = some none
  sub : PySem.W.subIn K (.ref C) (.type "BaseException") = some true
  cls : PySem.W.findIn K (.ref C) "__class__" = some (some (.builtin "object.__class__"))
  get : PySem.W.specialIn K (.builtin "object.__class__") "__get__" = some (some (.builtin "getset_descriptor.__get__"))
  tk : PySem.W.takesIn K (.builtin "object.__class__") = some true
  mro : PySem.W.mroIn K C (.type "object") = some true
/-- isinstance(e, D), e an error that is pinned at a -/
def rIsP (K : PySem.W.Frag) (C a : Addr) (d : Option Addr) : List V → Hp → VK → Prop := fun xs H Q => ∃ (c : V) (cv : Value) (b : Bool) (dd : Addr) (fs : List (Str × V)), xs = [.ref a, c] ∧ ClsV c cv ∧ PySem.W.kitOne K (.ref C) cv = some b ∧ d = some dd ∧ H dd = some (.xd fs) ∧ Q (.bl b) H
theorem call_isP {a C : Addr} {oe : Obj} {d : Option Addr} (T : ExP X.K C) (hz : Zc (.ref C) d oe) (hf : ∃ vs, oe.data = .fields vs) (hpin : (a, oe) ∈ X.pn) : CallR X (.builtin "isinstance") (rIsP X.K C a d) := by
  intro pins s σ H xs us Q I r h
  obtain ⟨c, cv, b, dd, fs, rfl, hc, kt, ed, ea, q⟩ := h
  subst ed
  have ha := (I.pin (a, oe) (List.mem_append_left pins hpin)).1
  obtain ⟨vs, hd⟩ := hf
  obtain ⟨mA, hns, hr⟩ := I.hok dd (.xd fs) ea
  obtain ⟨od, ho, hl⟩ := lookIn_ns hns
  have J : PySem.W.InstAt s.heap a oe C (some od) := ⟨ha, hz.1, by unfold PySem.W.notCls; rw [hd], by rw [hz.2]; exact ho⟩
  cases r with
  | cons r1 r2 =>
    cases r2 with
    | cons r2 r3 =>
      cases r3
      rename_i u1 u2
      obtain rfl : u1 = Value.ref a := r1
      have e2 : u2 = cv := by
        cases hc with
        | ty n => exact r2
        | own D => exact r2
      subst e2
      exact PySem.W.kia_one (PySem.W.kitx_exc T.is T.ga T.gg T.sub T.cls T.get T.tk T.mro) I.kIn J kt (fun z => nomatch z) fun tk => ⟨.bl b, H, I.kept (t' := tk) fun _ _ z => z, rfl, q⟩
end
end Spk

set_option Elab.async false
set_option linter.all false
set_option maxRecDepth 100000
set_option maxHeartbeats 1000000
namespace Spk
open PySem PySem.Spec PyProof.Rows PySem.W L2
/-! ## C(e, .., k = v, ..), its __init__ one with a star and keywords; what it raises -/
theorem passE {X : Cx} {E : XK} (tk : Takes X (fun cls d _ H => E cls d H)) : Passes (L2.CX X.prog X.w) X E := fun pins σ H s e s' I h => passAt tk σ pins H s e s' I h
def tMakePK (C : Addr) (m : Nat) (sp : List V → List V → Hp → VK → XK → Prop) (E : XK) (t tk : TA) : TE := fun σ H Q => t σ H fun vs H1 => tk σ H1 fun zs H2 => zs.length = m ∧
  ∀ x dx, H2 x = Option.none → H2 dx = Option.none → dx ≠ x → sp (V.ref x :: vs) zs (upd (upd H2 dx (.own x)) x (.ins C dx [])) (fun v H3 => v = .non ∧ Q (.ref x) H3) E
theorem i_mkpk {C : Addr} {m : Nat} {sp : List V → List V → Hp → VK → XK → Prop} {E : XK} {t tk : TA} {σ : L2.St} {H : Hp} {Q : VK} (h : t σ H fun vs H1 => tk σ H1 fun zs H2 => zs.length = m ∧
  ∀ x dx, H2 x = Option.none → H2 dx = Option.none → dx ≠ x → sp (V.ref x :: vs) zs (upd (upd H2 dx (.own x)) x (.ins C dx [])) (fun v H3 => v = .non ∧ Q (.ref x) H3) E) : tMakePK C m sp E t tk σ H Q := h
section
variable {X : Cx} {CX : CXT} {k : Nat} {f C : Addr} {ks : List Str} {sp : List V → List V → Hp → VK → XK → Prop} {E : XK} {x : Str} {p pos : Pos} {e : Expr} {es : List Expr} {kws : List Keyword} {t tk : TA}
theorem run_makePK {pins : List (Addr × Obj)} {σ : L2.St} {H : Hp} {s : Shared} {us ws : List Value} {vs zs : List V} {Q : VK} (M : Mk X.K C f) (F : FnK X.prog X.w X.K X.mg X.base CX k f ks sp) (hr : Room (k + 1) X.A) (hx : Passes CX X E) (I : L2.Inv X pins σ H s) (rv : Vals vs us) (rz : Vals zs ws) (l : zs.length = ks.length)
    (q : ∀ x dx, H x = Option.none → H dx = Option.none → dx ≠ x → sp (V.ref x :: vs) zs (upd (upd H dx (.own x)) x (.ins C dx [])) (fun v H3 => v = .non ∧ Q (.ref x) H3) E) : wpAny (model X.prog X.w) X.A (call (.ref C) us (ks.zip ws)) (EP X pins σ Q) X.xe s := by
  have hq := q (s.heap.objs.size + 1) s.heap.objs.size (I.hok.fresh (Nat.le_succ _)) (I.hok.fresh (Nat.le_refl _)) (Nat.ne_of_lt (Nat.lt_succ_self _))
  have J := Inv.made (C := C) I
  have rv' : Vals (V.ref (s.heap.objs.size + 1) :: vs) (Value.ref (s.heap.objs.size + 1) :: us) := .cons rfl rv
  refine wpAny_call (make_map (f := f) I.kIn M.makes M.init (beq_iff_eq.mp M.fn) (codeAny_mono (F _ X.stack _ _ (Value.ref (s.heap.objs.size + 1) :: us) ws _ _ _ E (hr.make C us (ks.zip ws)) (J.env0.make C us (ks.zip ws)) rv' rz l hq) ?_))
  intro r s4 hr4
  match r, hr4 with
  | .error er, hr4 => exact hx pins σ _ _ er s4 J hr4
  | .ok .next, hr4 => exact hr4.elim
  | .ok .brk, hr4 => exact hr4.elim
  | .ok .cont, hr4 => exact hr4.elim
  | .ok (.ret u), hr4 =>
    obtain ⟨v, H3, J3, rv3, ev, q3⟩ := J.after hr4
    subst ev
    exact ⟨rv3, ⟨V.ref (s.heap.objs.size + 1), H3, J3, rfl, q3⟩⟩
theorem pe_makePK (M : Mk X.K C f) (F : FnK X.prog X.w X.K X.mg X.base CX k f ks sp) (hr : Room (k + 1) X.A) (hg : Gl X x) (hm : X.mg x = some (.ref C)) (hx : Passes CX X E) (ha : PA X (e :: es) t) (hkw : PK X kws tk)
    (hall : (backToKw pos (keywordEach kws X.env)).all (·.1.isSome) = true := by rfl) (hks : (backToKw pos (keywordEach kws X.env)).filterMap (·.1) = ks := by rfl) (hdb : (x == ("__debug__" : Str)) = false := by decide)
    (hpl : (((backTo pos (starEach (e :: es) X.env)).any fun x => x.1) || (backToKw pos (keywordEach kws X.env)).any fun x => x.1.isNone) = false := by rfl)
    (hst : starEach (e :: es) X.env = (false, eval e X.env) :: starEach es X.env := by rfl) : PE X (.Call (.Name x p) (e :: es) kws pos) (tMakePK C ks.length sp E t tk) := by
  refine ⟨fun pins s σ H Q I h => ?_⟩
  refine wpAny_Call_Name_kw (ld_glob I hg hm ?_ hdb)
  refine PySem.W.callWith_KW (h₀ := X.base) I.ok.mod.kin M.kp hall (thn (ha.run pos pins s σ H _ I h) fun us s1 ⟨vs, H1, I1, rv, q1⟩ => thn (hkw.run pos pins s1 σ H1 _ I1 q1) fun ws s2 ⟨zs, H2, I2, rz, l2, q2⟩ => ⟨I2.kIn, ?_⟩) hpl hst
  rw [hks]
  exact run_makePK M F hr hx I2 rv rz l2 q2
theorem pe_makePK0 (M : Mk X.K C f) (F : FnK X.prog X.w X.K X.mg X.base CX k f ks sp) (hr : Room (k + 1) X.A) (hg : Gl X x) (hm : X.mg x = some (.ref C)) (hx : Passes CX X E) (hkw : PK X kws tk)
    (hall : (backToKw pos (keywordEach kws X.env)).all (·.1.isSome) = true := by rfl) (hks : (backToKw pos (keywordEach kws X.env)).filterMap (·.1) = ks := by rfl) (hdb : (x == ("__debug__" : Str)) = false := by decide)
    (hpl : (((backTo pos (starEach [] X.env)).any fun x => x.1) || (backToKw pos (keywordEach kws X.env)).any fun x => x.1.isNone) = false := by rfl) : PE X (.Call (.Name x p) [] kws pos) (tMakePK C ks.length sp E tNil tk) := by
  refine ⟨fun pins s σ H Q I h => ?_⟩
  refine wpAny_Call_Name_kw (ld_glob I hg hm ?_ hdb)
  refine PySem.W.callWith_KW0 (h₀ := X.base) I.ok.mod.kin M.kp hall (thn (hkw.run pos pins s σ H _ I h) fun ws s2 ⟨zs, H2, I2, rz, l2, q2⟩ => ⟨I2.kIn, ?_⟩) hpl
  rw [hks]
  exact run_makePK M F hr hx I2 .nil rz l2 q2
end
/-! ## C.m(e, .., k = v, ..), what it raises wished for at the slots as they stand -/
def tCMethKS (C : Addr) (n m : Nat) (sp : Sp) (gV : List V → List V → List V) (E : L2.St → XK) (ta : TE) (t tk : TA) : TE := fun σ H Q => ta σ H fun x H1 => x = .ref C ∧ t σ H1 fun vs H2 => tk σ H2 fun zs H3 => vs.length = n ∧ zs.length = m ∧ sp (gV (.ref C :: vs) zs) H3 Q (E σ)
section
open ClX
variable {X : Cx} {CX : CXT} {k n : Nat} {C p g : Addr} {fd : FuncData} {mc : Value} {sp : Sp} {E : L2.St → XK} {m : Str} {ps ks : List Str} {gg : List Value → List Value → List Value} {gV : List V → List V → List V} {pos apos : Pos} {e o : Expr} {es : List Expr} {kws : List Keyword} {ta : TE} {t tk : TA}
theorem pe_cmethKS {pl : Sem Bool} (he : PE X o ta) (r : CRead X.K C mc) (c : CMet X.K C mc m p g) (F : FnOk X.prog X.w X.K X.mg X.base CX k g fd ps sp) (hb : KBn X.K fd ps (n + 1) ks gg gV) (hr : Room k X.A) (hx : ∀ σ, PassesAt CX X σ (E σ)) (ha : PA X (e :: es) t) (hk : PK X kws tk)
    (hall : (backToKw pos (keywordEach kws X.env)).all (·.1.isSome) = true := by rfl) (hks : (backToKw pos (keywordEach kws X.env)).filterMap (·.1) = ks := by rfl)
    (hse : starEach (e :: es) X.env = (false, eval e X.env) :: starEach es X.env := by rfl)
    (hpl : (((backTo pos (starEach (e :: es) X.env)).any fun x => x.1) || (backToKw pos (keywordEach kws X.env)).any fun x => x.1.isNone) = false := by rfl)
    (ht : eval (.Call (.Attribute o m apos) (e :: es) kws pos) X.env = (do
      let ov ← eval o X.env
      standAt apos.atName
      let (f, first) ← holding [ov] (getMethod ov m pl)
      callWith pos f first (backTo pos (starEach (e :: es) X.env)) (backToKw pos (keywordEach kws X.env))) := by rfl) :
    PE X (.Call (.Attribute o m apos) (e :: es) kws pos) (tCMethKS C n ks.length sp gV E ta t tk) := by
  refine ⟨fun pins s σ H Q I h => ?_⟩
  refine PySem.W.methodCall_KW (pl := pl) (thn (he.run pins s σ H _ I h) fun u s1 ⟨x, H1, I1, rx, ex, z⟩ => ?_) ht
  subst ex
  obtain rfl : u = Value.ref C := rx
  refine getmethcm_ok I1 r c fun s2 I2 => ?_
  refine callwith_met (a := C) (g := g) hpl c.fi (evalArgs_kw2 hall (thn (ha.run pos _ s2 σ _ _ I2 z) fun us s3 ⟨vs, H2, I3, rv, z2⟩ => ?_) hse)
  refine thn (hk.run pos _ s3 σ H2 _ I3 z2) fun ws s4 ⟨zs, H3, I4, rz, l1, l2, q⟩ => ?_
  refine ⟨⟨pin_at I4, I4.kIn⟩, ?_⟩
  rw [hks]
  have w1 : us.length = n := by rw [← rv.length]; exact l1
  have w2 : ws.length = ks.length := by rw [← rz.length]; exact l2
  have rv' : Vals (V.ref C :: vs) (Value.ref C :: us) := .cons rfl rv
  refine wpAny_call (PySem.W.method_call (pin_at I4) (codeAny_mono (F.run X.A X.stack s4 H3 ⟨Value.ref C :: us, ks.zip ws⟩ (gg (Value.ref C :: us) ws) _ _ (E σ) hr I4.env0 (hb.to s4 (Value.ref C :: us) ws I4.kIn (by rw [List.length_cons, w1]) w2) (hb.rel rv' rz) q) ?_))
  intro r5 s5 hr5
  match r5, hr5 with
  | .error er, hr5 => exact hx σ _ _ _ er s5 I4 hr5
  | .ok .next, hr5 => exact hr5.elim
  | .ok .brk, hr5 => exact hr5.elim
  | .ok .cont, hr5 => exact hr5.elim
  | .ok (.ret u5), hr5 => exact ClX.unpinE (I4.after hr5)
end
end Spk

set_option Elab.async false
set_option linter.all false
set_option maxRecDepth 100000
set_option maxHeartbeats 1000000
namespace Spk
open PySem PySem.Spec PyProof.Rows L2
/-! ## xs != [], xs == [] of a list of anything -/
def rNeNil : R2 := fun x y H Q => ∃ a b xs, x = .ref a ∧ y = .ref b ∧ H a = some (.lst xs) ∧ H b = some (.lst []) ∧ Q (.bl (!xs.isEmpty)) H
def rEqNil : R2 := fun x y H Q => ∃ a b xs, x = .ref a ∧ y = .ref b ∧ H a = some (.lst xs) ∧ H b = some (.lst []) ∧ Q (.bl xs.isEmpty) H
theorem op_neNil {X : Cx} (hu : X.A.units < cLine) : OpR X (compareOp .NotEq) rNeNil := by
  intro pins s σ H x y v u Q I rx ry h
  obtain ⟨a, b, xs, rfl, rfl, ha, hb, q⟩ := h
  obtain rfl : v = Value.ref a := rx
  obtain rfl : u = Value.ref b := ry
  obtain ⟨its, rv, pl, hz⟩ := I.list (SqL.of ha)
  obtain ⟨its2, rv2, pl2, hz2⟩ := I.list (SqL.of hb)
  show wpAny (model X.prog X.w) X.A (richCompare .NotEq (.ref a) (.ref b)) (EP X pins σ Q) X.xe s
  have e2 : its2 = [] := List.eq_nil_of_length_eq_zero (by rw [← rv2.length]; rfl)
  subst e2
  cases xs with
  | nil =>
    have e1 : its = [] := List.eq_nil_of_length_eq_zero (by rw [← rv.length]; rfl)
    subst e1
    exact SeqAt.RcNeAt.lists (e := fun _ => true) pl.isList pl2.isList rfl hu (fun j h1 => absurd h1 (Nat.not_lt_zero _)) _ _ _ _ ⟨.bl _, H, I, rfl, q⟩
  | cons w ws =>
    refine SeqAt.RcNeAt.lists_lengths pl.isList pl2.isList ?_ hu _ _ _ _ ⟨.bl _, H, I, rfl, q⟩
    have := rv.length
    cases its with
    | nil => simp at this
    | cons i is => rfl
theorem op_eqNil {X : Cx} (hu : X.A.units < cLine) : OpR X (compareOp .Eq) rEqNil := by
  intro pins s σ H x y v u Q I rx ry h
  obtain ⟨a, b, xs, rfl, rfl, ha, hb, q⟩ := h
  obtain rfl : v = Value.ref a := rx
  obtain rfl : u = Value.ref b := ry
  obtain ⟨its, rv, pl, hz⟩ := I.list (SqL.of ha)
  obtain ⟨its2, rv2, pl2, hz2⟩ := I.list (SqL.of hb)
  show wpAny (model X.prog X.w) X.A (richCompare .Eq (.ref a) (.ref b)) (EP X pins σ Q) X.xe s
  have e2 : its2 = [] := List.eq_nil_of_length_eq_zero (by rw [← rv2.length]; rfl)
  subst e2
  cases xs with
  | nil =>
    have e1 : its = [] := List.eq_nil_of_length_eq_zero (by rw [← rv.length]; rfl)
    subst e1
    exact SeqAt.RcAt.lists (e := fun _ => true) pl.isList pl2.isList rfl hu (fun j h1 => absurd h1 (Nat.not_lt_zero _)) _ _ _ _ ⟨.bl _, H, I, rfl, q⟩
  | cons w ws =>
    refine SeqAt.RcAt.lists_lengths pl.isList pl2.isList ?_ hu _ _ _ _ ⟨.bl _, H, I, rfl, q⟩
    have := rv.length
    cases its with
    | nil => simp at this
    | cons i is => rfl
theorem roomU {k : Nat} {A : Around} (hr : Room k A) : A.units < cLine := by
  have := hr.un
  omega
end Spk

set_option Elab.async false
set_option linter.all false
set_option maxRecDepth 100000
set_option maxHeartbeats 1000000
namespace Spk
open PySem PySem.Spec PyProof.Rows L2
/-! ## methods of tuples that are known whole -/
/-- the tuple at a, its object known -/
def TupF (H : Hp) (a : Addr) (xs : List V) : Prop := ∃ o : Obj, H a = some (.frz o (.tup xs)) ∧ o.cls = .type "tuple" ∧ o.dict = none
theorem TupF.seq {K : PySem.W.Frag} {H : Hp} {a : Addr} {xs : List V} (h : TupF H a xs) : SqT K H a xs := by
  obtain ⟨o, h, _⟩ := h
  exact .inl (.inr ⟨o, h⟩)
theorem TupF.up {H H' : Hp} {a : Addr} {xs : List V} (e : Same H H') (h : TupF H a xs) : TupF H' a xs := by
  obtain ⟨o, h, r⟩ := h
  exact ⟨o, e _ _ h, r⟩
def tBMF (r : V → List V → Hp → VK → Prop) (to : TE) (t : TA) : TE := fun σ H Q => to σ H fun x H1 => (∃ a xs, x = .ref a ∧ TupF H1 a xs) ∧ t σ H1 fun xs H2 => r x xs H2 Q
theorem i_bmf {r : V → List V → Hp → VK → Prop} {to : TE} {t : TA} {σ : L2.St} {H : Hp} {Q : VK} (h : to σ H fun x H1 => (∃ a xs, x = .ref a ∧ TupF H1 a xs) ∧ t σ H1 fun xs H2 => r x xs H2 Q) : tBMF r to t σ H Q := h
theorem pe_bmF {X : Cx} {o e : Expr} {es : List Expr} {to : TE} {t : TA} {name : Str} {apos cpos : Pos} {id : String} {r : V → List V → Hp → VK → Prop} (pa : PlainAttrs "tuple") (slot : Slot "tuple" name id) (hty : typeOf (Value.builtin id) = pure (Value.type "method_descriptor"))
    (hm : MtR X id r) (ho : PE X o to) (ha : PA X (e :: es) t) (hbase : attributeBase o name X.env (eval o X.env) = eval o X.env := by rfl)
    (hfew : ((((backTo cpos (starEach (e :: es) X.env)).all fun x => !x.1) && (backToKw cpos (keywordEach [] X.env)).all fun x => x.1.isSome) && decide (((e :: es).length + ([] : List Keyword).length + if ([] : List Keyword).isEmpty = true then 0 else 1) < 30)) = true := by rfl)
    (hline : (apos.endLine == cpos.line) = true := by rfl) (hs : starEach (e :: es) X.env = (false, eval e X.env) :: starEach es X.env := by rfl) (hpl : ((backTo cpos (starEach es X.env)).any fun x => x.1) = false := by rfl) :
    PE X (.Call (.Attribute o name apos) (e :: es) [] cpos) (tBMF r to t) := by
  refine ⟨fun pins s σ H Q I h => wpAny_Call_method_late hbase hfew hline rfl (thn (ho.run pins s σ H _ I h) fun v s1 ⟨x, H1, I1, r1, ⟨a, xs, ex, ob, hf, hc, hd⟩, q1⟩ => ?_)⟩
  subst ex
  obtain rfl : v = Value.ref a := r1
  have hg : s1.heap.get? a = some ob := (I1.hok a _ hf).1
  refine ⟨"tuple", id, pa, slot, hty, ⟨ob, hg, hc⟩, fun b e => by cases e; exact ⟨ob, hg, hd⟩, ?_⟩
  have hA := ha.run cpos pins s1 σ H1 _ I1 q1
  rw [hs] at hA ⊢
  refine Calls.callWith_builtin (by show (false || _) = false; rw [Bool.false_or]; exact hpl) (Calls.evalArgs_plain (thn hA fun us s2 ⟨vs, H2, I2, r2, q2⟩ => ?_))
  exact hm pins s2 σ H2 (.ref a) vs _ us Q I2 rfl r2 q2
end Spk

set_option Elab.async false
set_option linter.all false
namespace Spk
open PySem L2
/-! ## rules whose reading names the written part K by itself: for what stands within a comprehension -/
section
variable {X : Cx} {K : PySem.W.Frag} {e : Expr} {f : Str} {pos : Pos} {ta : TE}
theorem op_inK (h : X.K = K) : OpR X (compareOp .In) (rIn K false) := by subst h; exact op_in_seq
theorem op_notInK (h : X.K = K) : OpR X (compareOp .NotIn) (rIn K true) := by subst h; exact op_notIn_seq
theorem call_isiK (h : X.K = K) : CallR X (.builtin "isinstance") (rIsi K) := by subst h; exact call_isi
theorem pe_fldK (h : X.K = K) (he : PE X e ta) (hb : attributeBase e f X.env (eval e X.env) = eval e X.env) : PE X (.Attribute e f pos) (tFld K ta f) := by subst h; exact pe_fld he hb
theorem ix_tupK (h : X.K = K) : IxR X (rIxT K) := by subst h; exact ix_tup
theorem ix_listK (h : X.K = K) : IxR X (rIxL K) := by subst h; exact ix_list
theorem mt_tup_indexK (h : X.K = K) : MtR X "tuple.index" (fun x xs H Q => ∃ p, ∃ ys : List Str, ∃ z j, x = .ref p ∧ xs = [.str z] ∧ SqT K H p (ys.map V.str) ∧ ys[j]? = some z ∧ (∀ m, m < j → ys[m]? ≠ some z) ∧ Q (.int (j : Nat)) H) := by subst h; exact mt_tup_index
theorem mt_indexDK (h : X.K = K) (hu : X.A.units + 65 < cLine) : MtR X "list.index" (rIndexD K) := by subst h; exact mt_indexD hu
theorem op_catAK (h : X.K = K) : OpR X (binaryOp .Add) (rCatA K) := by subst h; exact op_catA
theorem sl_tupK (h : X.K = K) : SlR X (rSlT K) := by subst h; exact sl_tup
theorem call_len_seqK (h : X.K = K) : CallR X (.builtin "len") (fun xs H Q => ∃ p ys, xs = [.ref p] ∧ (SqL K H p ys ∨ SqT K H p ys) ∧ Q (.int ys.length) H) := by subst h; exact call_len_seq
theorem pe_bmK {o : Expr} {es : List Expr} {to : TE} {t : TA} {name : Str} {apos cpos : Pos} {T id : String} {r : V → List V → Hp → VK → Prop} (h : X.K = K) (pa : PlainAttrs T) (slot : Slot T name id) (hty : typeOf (Value.builtin id) = pure (Value.type "method_descriptor")) (hm : MtR X id r) (ho : PE X o to) (ha : PA X (e :: es) t)
    (hbase : attributeBase o name X.env (eval o X.env) = eval o X.env := by rfl)
    (hfew : ((((backTo cpos (starEach (e :: es) X.env)).all fun x => !x.1) && (backToKw cpos (keywordEach [] X.env)).all fun x => x.1.isSome) && decide (((e :: es).length + ([] : List Keyword).length + if ([] : List Keyword).isEmpty = true then 0 else 1) < 30)) = true := by rfl)
    (hline : (apos.endLine == cpos.line) = true := by rfl) (hs : starEach (e :: es) X.env = (false, eval e X.env) :: starEach es X.env := by rfl) (hpl : ((backTo cpos (starEach es X.env)).any fun x => x.1) = false := by rfl) :
    PE X (.Call (.Attribute o name apos) (e :: es) [] cpos) (tBM K T r to t) := by subst h; exact pe_bm pa slot hty hm ho ha hbase hfew hline hs hpl
end
theorem room65 {k : Nat} {A : Around} (hr : Room k A) : A.units + 65 < cLine := by
  have := hr.un
  omega
end Spk

set_option Elab.async false
set_option linter.all false
set_option maxRecDepth 100000
set_option maxHeartbeats 2000000
namespace Spk
open PySem PySem.Spec PyProof.Rows L2
open AutoSeq1 (wpAny_loadPart')

/-! ## for i, x in enumerate(t), t a tuple -/
abbrev itO (l : Addr) : Obj := { cls := .type "tuple_iterator", data := .fields #[.ref l, .int 0 0] }
abbrev enO (k : Addr) : Obj := { cls := .type "enumerate", data := .fields #[.none, .bool false, .ref k, rawInt 0, .none, .none] }
set_option maxHeartbeats 4000000 in
theorem enum_newT (l : Addr) (items : Array Value) (n : Nat) (dd : Option Addr) (sl : Array (Option Value)) : Meets (Builtin.«enumerate.__new__» ⟨[.type "enumerate", .ref l], []⟩) (fun _ R s =>
      s.heap.get? l = some { cls := .type "tuple", dict := dd, data := .seq items n, slots := sl } ∧ R (.ok (.ret (.ref (s.heap.push (itO l)).objs.size))) { s with heap := (s.heap.push (itO l)).push (enO s.heap.objs.size) }) :=
  .of_wp fun prog w A R s h => by
    obtain ⟨hp, g, d, tk, os⟩ := s
    obtain ⟨hl, h⟩ := h
    have hT : hp.IsTuple l items := ⟨_, hl, rfl, n, rfl⟩
    have hsub := sub_enumerate
    wp_walk using wpAny_loadPart' hl
    refine wpAny_stack_any fun st => wpAny_pure ?_
    split
    · rename_i c _ _ _ _ _
      cases (c == Value.type "enumerate") <;> (wp_walk using wpAny_loadPart' hl, wpAny_pyIter_tuple hT; exact ⟨_, rfl, h⟩)
    · (wp_walk using wpAny_loadPart' hl, wpAny_pyIter_tuple hT); exact ⟨_, rfl, h⟩

theorem call_enumT {prog : Program} {w : World} {A : Around} {E : Value → Shared → Prop} {s : Shared} {l : Addr} {items : Array Value} {Q : Value → Shared → Prop} (hL : s.heap.IsTuple l items)
    (h : ∀ h', IsEnum h' (s.heap.objs.size + 1) s.heap.objs.size 0 .none → h'.IsTupleIter s.heap.objs.size l 0 → (∀ b o, s.heap.get? b = some o → h'.get? b = some o) → Q (.ref (s.heap.objs.size + 1)) { s with heap := h' }) :
    wpAny (model prog w) A (call (.type "enumerate") [.ref l]) Q E s := by
  obtain ⟨⟨c, dct, dt, sl⟩, hl, hc, n, hd⟩ := hL
  replace hc : c = .type "tuple" := hc
  replace hd : dt = .seq items n := hd
  subst hc hd
  have hz : (s.heap.push (itO l)).objs.size = s.heap.objs.size + 1 := Heap.size_push ..
  have he : IsEnum ((s.heap.push (itO l)).push (enO s.heap.objs.size)) (s.heap.objs.size + 1) s.heap.objs.size 0 .none := by
    have := Heap.get?_push_size (s.heap.push (itO l)) (o := enO s.heap.objs.size) rfl
    rw [hz] at this
    exact this
  have fin := h _ he ⟨_, Heap.get?_push_of_some _ (Heap.get?_push_size _ rfl), rfl, rfl⟩ fun b o x => Heap.get?_push_of_some _ (Heap.get?_push_of_some _ x)
  refine callType_new PySem.F.called_enumerate (by decide) (PySem.F.typeCall_enumerate_1 _) (PySem.F.newCall_enumerate_1 _) (fun obj => PySem.F.args_object_init_2 obj _) PySem.F.entry_enumerate_new (enum_newT l items n dct sl) ⟨hl, ?_⟩
  show _ ∧ _
  rw [hz]
  exact ⟨⟨_, he, rfl⟩, fin⟩
/-- the tuple at a, each item in a new pair -/
def IteT (K : PySem.W.Frag) (a : Addr) : It where
  go := fun i H => ∃ (xs : List V) (x : V), SqT K H a xs ∧ xs[i]? = some x
  yld := fun i H v H' => ∃ T x, v = .ref T ∧ H T = none ∧ H' = upd H T (.tup [.int (i : Nat), x]) ∧ ∀ xs, SqT K H a xs → xs[i]? = some x
  stop := fun i H => ∃ xs : List V, SqT K H a xs ∧ xs.length = i
theorem turn_enumT {P : Program} {w : World} {K : PySem.W.Frag} {elts : List Expr} {kk : Nat} {tpos : Pos} (a e it : Addr) :
    Turn P w K (.Tuple elts kk tpos) (IteT K a) [e, it] e (fun i h => (∃ old, IsEnum h e it ((i : Nat) : Int) old) ∧ h.IsTupleIter it a i ∧ e ≠ it ∧ a ≠ it ∧ a ≠ e) where
  mem := by simp
  obj := fun i h st b hb => by
    obtain ⟨⟨old, he⟩, ⟨o, ho, hc, hd⟩, _⟩ := st
    rcases List.mem_cons.mp hb with rfl | hb
    · exact ⟨_, he, fun v q => nomatch q⟩
    · rw [List.mem_singleton.mp hb]
      exact ⟨o, ho, fun v q => by rw [hd] at q; cases q⟩
  keep := fun i h h' st k => by
    obtain ⟨⟨old, he⟩, hi, hne⟩ := st
    exact ⟨⟨old, k e (by simp) _ he⟩, hi.at fun o q => k it (by simp) o q, hne⟩
  item := by
    intro X hP hw hK hc i pins s σ H E I hf st hg
    subst hP hw hK
    obtain ⟨⟨old, he⟩, hit, hne, hai, hae⟩ := st
    obtain ⟨xs, x, hq, hx⟩ := hg
    obtain ⟨its, rv, p, hz⟩ := I.tuple hq
    obtain ⟨u, hu, ru⟩ := rv.get hx
    have hel : e < s.heap.objs.size := Heap.lt_size he
    have hil : it < s.heap.objs.size := by
      obtain ⟨_, q, _⟩ := hit
      exact Heap.lt_size q
    have hi : i < its.toArray.size := by
      rw [List.size_toArray]
      exact (List.getElem?_eq_some_iff.mp hu).1
    have D := Draws.tuple (prog := X.prog) (w := X.w) (A := X.A.in1) (I.ok.hd hc) it a hai its.toArray
    refine wpAny_pyNext_enum_itemD D he ⟨hit, p⟩ hi hne (by simp [hne, Ne.symm hae]) fun x' h' tk hx' ho hst hT hsz hk => ?_
    have ex : x' = u := by
      have h1 : its.toArray[i]? = some u := by simpa using hu
      rw [h1] at hx'
      exact (Option.some.inj hx').symm
    subst ex
    refine ⟨_, rfl, wpAny_letOwnedTupleGo_enum (s := { s with heap := h', toks := tk + 1 }) ho fun h'' he' sb => ?_⟩
    have hT2 : h''.get? s.heap.objs.size = some { cls := .type "tuple", data := .seq #[.int i tk, x'] } := (sb.2 _ (Nat.ne_of_gt hel)).trans hT
    have new : ObjOk X.prog X.w (upd H s.heap.objs.size (.tup [.int (i : Nat), x])) h'' s.heap.objs.size (.tup [.int (i : Nat), x]) :=
      ⟨size_of (Nat.le_of_ble_eq_true rfl), [.int i tk, x'], .cons ⟨_, rfl⟩ (.cons ru .nil), ⟨_, hT2, rfl, _, rfl⟩⟩
    have keepB : ∀ b ob, b ∉ [e, it] → s.heap.get? b = some ob → h''.get? b = some ob := fun b ob hb q => by
      simp only [List.mem_cons, List.not_mem_nil, or_false, not_or] at hb
      exact (sb.2 b hb.1).trans (hk b ob hb.1 hb.2 q)
    have I1 := I.turnedNew (t' := tk + 1) (ch := [e, it]) keepB hf (Nat.le_refl _) new
    refine ⟨.ref s.heap.objs.size, _, I1, rfl, ⟨_, x, rfl, I.hok.fresh (Nat.le_refl _), rfl, fun ys hy => by rw [I.tuple_inj hy hq]; exact hx⟩, ⟨⟨x', ?_⟩, hst.1.at fun o q => (sb.2 it (Ne.symm hne)).trans q, hne, hai, hae⟩, fun b hb => ?_⟩
    · rw [show ((i + 1 : Nat) : Int) = (i : Int) + 1 from rfl]
      exact he'
    · have hb' : b < s.heap.objs.size := by
        rcases List.mem_cons.mp hb with rfl | hb
        · exact hel
        · rw [List.mem_singleton.mp hb]; exact hil
      rw [upd_ne (Nat.ne_of_lt hb')]
      exact (hf b hb).1
  done := by
    intro X hP hw hK hc i pins s σ H E I hf st hg
    subst hP hw hK
    obtain ⟨⟨old, he⟩, hit, hne, hai, hae⟩ := st
    obtain ⟨xs, hq, hx⟩ := hg
    obtain ⟨its, rv, p, hz⟩ := I.tuple hq
    obtain ⟨f0, f1, f2, f3, f4, f5⟩ := hf it (by simp)
    have D := Draws.tuple (prog := X.prog) (w := X.w) (A := X.A.in1) (I.ok.hd hc) it a hai its.toArray
    have hsz : its.toArray.size = i := by rw [List.size_toArray, ← rv.length]; exact hx
    refine wpAny_pyNext_enum_endD D he ⟨by rw [hsz]; exact hit, p⟩ fun h' eb => ⟨rfl, ?_⟩
    exact I.turned (t' := s.toks) (fun b o hb q => eb b o hb q) f0 f1 f3 f4 f5
  self := fun A i s Q E st h => by
    obtain ⟨⟨_, he⟩, _⟩ := st
    exact wpAny_pyIter_enum he h

def iEnumT (K : PySem.W.Frag) (ta : TA) : TI := fun σ H R => ta σ H fun vs H1 => ∃ a xs, vs = [.ref a] ∧ SqT K H1 a xs ∧ R (IteT K a) H1
theorem i_iET {K : PySem.W.Frag} {σ : L2.St} {H : Hp} {ts : TA} {R : It → Hp → Prop} (h : ts σ H fun vs H1 => ∃ a xs, vs = [.ref a] ∧ SqT K H1 a xs ∧ R (IteT K a) H1) : iEnumT K ts σ H R := h
theorem pi_enumT {X : Cx} {e : Expr} {ta : TA} {p pos tpos : Pos} {elts : List Expr} {kk : Nat} (hg : Gl X "enumerate") (hm : X.mg "enumerate" = none) (ha : PA X [e] ta) (hs : starEach [e] X.env = [(false, eval e X.env)] := by rfl) :
    PI X (.Tuple elts kk tpos) (.Call (.Name "enumerate" p) [e] [] pos) (iEnumT X.K ta) := by
  refine ⟨fun pins s σ H R I h => ?_⟩
  refine Call_ (ld_blt I hg hm boot_enumerate (callWith_type1 (thn (ha.run pos pins s σ H _ I h) fun us s1 ⟨vs, H1, I1, r1, q1⟩ => ?_) hs rfl))
  obtain ⟨a, xs, ex, hq, q⟩ := q1
  subst ex
  obtain ⟨u, rfl, ru⟩ := r1.one
  cases ru
  obtain ⟨its, rv, p', hz⟩ := I1.tuple hq
  have ha' : a < s1.heap.objs.size := by
    obtain ⟨o, ho, _⟩ := p'
    exact Heap.lt_size ho
  refine call_enumT p' fun h' he hit hk => wpAny_pyIter_enum he ?_
  have I2 : Inv X pins σ H1 { s1 with heap := h' } := I1.kept (t' := s1.toks) hk
  have ne1 : a ≠ s1.heap.objs.size := Nat.ne_of_lt ha'
  have ne2 : a ≠ s1.heap.objs.size + 1 := Nat.ne_of_lt (Nat.lt_succ_of_lt ha')
  refine ⟨s1.heap.objs.size + 1, [s1.heap.objs.size + 1, s1.heap.objs.size], _, _, H1, rfl, I2, turn_enumT a (s1.heap.objs.size + 1) s1.heap.objs.size, ⟨⟨.none, he⟩, hit, Nat.succ_ne_self _, ne1, ne2⟩, fun b hb => ?_, q⟩
  have hle : s1.heap.objs.size ≤ b := by
    rcases List.mem_cons.mp hb with rfl | hb
    · exact Nat.le_succ _
    · rw [List.mem_singleton.mp hb]
      exact Nat.le_refl _
  exact I1.fpOk hle (I1.hok.fresh hle)
theorem for_enumT {K : PySem.W.Frag} {a : Addr} {xs : List V} {g : TG} {tb : TS} {D : Ends} {σ : L2.St} {H : Hp} (Pv : Nat → L2.St → Hp → Prop) (h0 : Pv 0 σ H) (hl : ∀ i σ H, i ≤ xs.length → Pv i σ H → SqT K H a xs)
    (hs : ∀ i x T σ H, xs[i]? = some x → Pv i σ H → H T = none → g (.ref T) σ (upd H T (.tup [.int (i : Nat), x])) fun σ2 H2 => tb { D with nx := Pv (i + 1), ct := Pv (i + 1), bk := D.nx } σ2 H2) (hd : ∀ σ H, Pv xs.length σ H → D.nx σ H) :
    forK g tb D σ (IteT K a) H := by
  refine ⟨fun i m σ H => m = xs.length - i ∧ i ≤ xs.length ∧ Pv i σ H, ⟨_, rfl, Nat.zero_le _, h0⟩, ?_⟩
  rintro i m σ H ⟨rfl, hi, p⟩
  by_cases e : i = xs.length
  · subst e
    exact .inl ⟨⟨xs, hl _ _ _ hi p, rfl⟩, hd _ _ p⟩
  · have hlt : i < xs.length := by omega
    refine .inr ⟨⟨xs, xs[i], hl _ _ _ hi p, List.getElem?_eq_getElem hlt⟩, Pv (i + 1), fun σ' H' p' => ⟨_, ?_, rfl, hlt, p'⟩, ?_⟩
    · omega
    · rintro x H' ⟨T, y, rfl, hT, rfl, hy⟩
      exact hs i y T σ H (hy xs (hl _ _ _ hi p)) p hT
end Spk

set_option Elab.async false
set_option linter.all false
set_option maxRecDepth 100000
set_option maxHeartbeats 1000000
namespace Spk
open PySem L2
/-! ## for i, x in enumerate(list) -/
theorem i_iE {K : PySem.W.Frag} {σ : L2.St} {H : Hp} {ta : TA} {R : It → Hp → Prop} (h : ta σ H fun vs H1 => ∃ a xs, vs = [.ref a] ∧ SqL K H1 a xs ∧ R (Ite K a) H1) : iEnum K ta σ H R := h
theorem for_enumL {K : PySem.W.Frag} {a : Addr} {xs : List V} {g : TG} {tb : TS} {D : Ends} {σ : L2.St} {H : Hp} (Pv : Nat → L2.St → Hp → Prop) (h0 : Pv 0 σ H) (hl : ∀ i σ H, i ≤ xs.length → Pv i σ H → SqL K H a xs)
    (hs : ∀ i x T σ H, xs[i]? = some x → Pv i σ H → H T = none → g (.ref T) σ (upd H T (.tup [.int (i : Nat), x])) fun σ2 H2 => tb { D with nx := Pv (i + 1), ct := Pv (i + 1), bk := D.nx } σ2 H2) (hd : ∀ σ H, Pv xs.length σ H → D.nx σ H) :
    forK g tb D σ (Ite K a) H := by
  refine ⟨fun i m σ H => m = xs.length - i ∧ i ≤ xs.length ∧ Pv i σ H, ⟨_, rfl, Nat.zero_le _, h0⟩, ?_⟩
  rintro i m σ H ⟨rfl, hi, p⟩
  by_cases e : i = xs.length
  · subst e
    exact .inl ⟨⟨xs, hl _ _ _ hi p, Nat.le_refl _⟩, hd _ _ p⟩
  · have hlt : i < xs.length := by omega
    refine .inr ⟨⟨xs, xs[i], hl _ _ _ hi p, List.getElem?_eq_getElem hlt⟩, Pv (i + 1), fun σ' H' p' => ⟨_, ?_, rfl, hlt, p'⟩, ?_⟩
    · omega
    · rintro x H' ⟨T, y, rfl, hT, rfl, hy⟩
      exact hs i y T σ H (hy xs (hl _ _ _ hi p)) p hT
end Spk

set_option Elab.async false
set_option linter.all false
set_option maxRecDepth 100000
set_option maxHeartbeats 1000000
namespace Spk
open PySem L2
def top (i : Nat) : Stmt := PySem.Challenge.pw_speaklast_k14_whole_steps_tell_made_rows.main.body.getD i (.Pass ⟨0, 0, 0, 0⟩)
local macro_rules | `(tactic| walk_at "rd") => `(tactic| repeat (first
  | with_reducible refine i_seq ?_ | with_reducible refine i_asg ?_ | with_reducible refine i_ret ?_ | with_reducible refine i_ifS ?_ | with_reducible refine i_if ?_
  | with_reducible refine i_for ?_ | with_reducible refine i_iL ?_ | with_reducible refine i_iT ?_ | with_reducible refine i_ckw ?_ | with_reducible refine i_cm ?_ | with_reducible refine And.intro (rfl : V.ref _ = V.ref _) ?_ | with_reducible refine i_rng1 ?_ | with_reducible refine i_bm ?_ | with_reducible refine i_bm0 ?_
  | with_reducible refine i_drop ?_ | with_reducible refine i_next ?_
  | with_reducible refine i_var rfl ?_ | with_reducible refine i_c ?_ | with_reducible refine i_op ?_ | with_reducible refine i_un ?_ | with_reducible refine i_name ?_
  | with_reducible refine i_rI0 ?_ | with_reducible refine i_rU ?_ | with_reducible refine i_rEq rfl ?_ | with_reducible refine i_rNe rfl ?_
  | with_reducible refine i_test ?_ | with_reducible refine i_tB ?_ | with_reducible refine i_and ?_ | with_reducible refine i_or ?_ | with_reducible refine i_not ?_
  | with_reducible refine i_andV ?_ | with_reducible refine i_orV ?_ | with_reducible refine i_notV ?_
  | with_reducible refine i_cons ?_ | with_reducible refine i_nil ?_ | with_reducible refine i_cb ?_ | with_reducible refine i_call ?_ | with_reducible refine i_bl ?_
  | with_reducible refine i_tup ?_ | with_reducible refine i_lst ?_ | with_reducible refine i_par ?_ | with_reducible refine i_gcons ?_ | with_reducible refine i_gnil ?_
  | with_reducible refine And.intro (rfl : V.non = V.non) ?_ | with_reducible refine i_ixT (by assumption) rfl ?_ | with_reducible refine i_ixL (by assumption) rfl ?_ | with_reducible refine i_gtup (by assumption) rfl ?_
  | with_reducible refine i_gsub ?_
  | with_reducible refine Or.inl (Exists.intro _ (And.intro (rfl : [V.int _] = [V.int _]) ?_)) | with_reducible refine Exists.intro _ (And.intro (rfl : [V.int _] = [V.int _]) ?_)
  | with_reducible refine Or.inr (Exists.intro _ (And.intro (rfl : [V.bl _] = [V.bl _]) ?_))
  | with_reducible refine Exists.intro _ (Exists.intro _ (And.intro (rfl : [V.int _, V.int _] = [V.int _, V.int _]) ?_))
  | with_reducible refine Exists.intro _ (Exists.intro _ (And.intro (rfl : [V.ref _] = [V.ref _]) (And.intro (Or.inl (SqL.of (by assumption))) ?_)))
  | with_reducible refine i_rI (show (0 : Int) < _ by assumption) ?_ | with_reducible refine i_rI (show (0 : Int) < _ by decide) ?_
  | with_reducible refine i_rI (pow_ok (Nat.le_of_ble_eq_true rfl) (Nat.le_of_ble_eq_true rfl)) ?_
  | with_reducible refine i_rI (cmulL rfl) ?_))
theorem _root_.L2.Same.mut {H0 H : Hp} {d : Addr} {o : HO} (e : Same H0 H) (h : H0 d = none) : Same H0 (upd H d o) := fun b u hb => by
  rw [upd_ne (ne_of_none hb h)]
  exact e b u hb
/-! ### the pen: what is drawn from the script -/
def penny : HO → Bool
  | .lst [.ref _, .int _, .int _] => true
  | _ => false
/-- all but a pen is as it was -/
def Keep (H H' : Hp) : Prop := ∀ b o, penny o = false → H b = some o → H' b = some o
theorem Keep.refl (H : Hp) : Keep H H := fun _ _ _ h => h
theorem Keep.trans {H H1 H2 : Hp} (a : Keep H H1) (b : Keep H1 H2) : Keep H H2 := fun c o p h => b c o p (a c o p h)
theorem Same.keep {H H' : Hp} (e : Same H H') : Keep H H' := fun b o _ h => e b o h
def Pen (H : Hp) (p L : Addr) (n : Nat) : Prop := ∃ (ns : List Int) (at_ lg : Int), H p = some (.lst [.ref L, .int at_, .int lg]) ∧ H L = some (.lst (ns.map V.int)) ∧ ns.length ≤ 63 ∧ 0 ≤ at_ ∧ at_ ≤ n ∧ 0 ≤ lg
theorem Pen.up {H H' : Hp} {p L : Addr} {n : Nat} (e : Same H H') (h : Pen H p L n) : Pen H' p L n := by
  obtain ⟨ns, a, l, h1, h2, r⟩ := h
  exact ⟨ns, a, l, e _ _ h1, e _ _ h2, r⟩
theorem Pen.mono {H : Hp} {p L : Addr} {n m : Nat} (h : Pen H p L n) (e : n ≤ m) : Pen H p L m := by
  obtain ⟨ns, a, l, h1, h2, h3, h4, h5, h6⟩ := h
  exact ⟨ns, a, l, h1, h2, h3, h4, by omega, h6⟩
theorem penny_ints (ns : List Int) : penny (.lst (ns.map V.int)) = false := by
  cases ns <;> rfl
/-- a pen is written anew -/
theorem pen_set {H : Hp} {p L : Addr} {ns : List Int} {a l a' l' : Int} {n : Nat} (hp : H p = some (.lst [.ref L, .int a, .int l])) (hL : H L = some (.lst (ns.map V.int))) (h1 : ns.length ≤ 63) (h2 : 0 ≤ a') (h3 : a' ≤ n) (h4 : 0 ≤ l') :
    Keep H (upd H p (.lst [.ref L, .int a', .int l'])) ∧ Pen (upd H p (.lst [.ref L, .int a', .int l'])) p L n := by
  refine ⟨fun b o hb e => ?_, ns, a', l', upd_same, ?_, h1, h2, h3, h4⟩
  · have : b ≠ p := fun z => by
      subst z
      rw [hp] at e
      cases e
      simp [penny] at hb
    rw [upd_ne this]
    exact e
  · have : L ≠ p := fun z => by
      subst z
      rw [hp] at hL
      have := penny_ints ns
      rw [← HO.lst.inj (Option.some.inj hL)] at this
      simp [penny] at this
    rw [upd_ne this]
    exact hL
theorem pen_put {H : Hp} {p L : Addr} {ns : List Int} {a l a' l' : Int} (hp : H p = some (.lst [.ref L, .int a, .int l])) (hL : H L = some (.lst (ns.map V.int))) :
    ∃ H1, upd H p (.lst [.ref L, .int a', .int l']) = H1 ∧ Keep H H1 ∧ H1 p = some (.lst [.ref L, .int a', .int l']) ∧ H1 L = some (.lst (ns.map V.int)) := by
  have : L ≠ p := fun z => by
    subst z
    rw [hp] at hL
    have := penny_ints ns
    rw [← HO.lst.inj (Option.some.inj hL)] at this
    simp [penny] at this
  refine ⟨_, rfl, fun b o hb e => ?_, upd_same, by rw [upd_ne this]; exact hL⟩
  have : b ≠ p := fun z => by
    subst z
    rw [hp] at e
    cases e
    simp [penny] at hb
  rw [upd_ne this]
  exact e
theorem dps_ints {K : PySem.W.Frag} {H : Hp} : ∀ ns : List Int, DpAll K H (ns.map V.int) (ns.map PyData.int)
  | [] => .nil
  | n :: ns => .cons (.int n) (dps_ints ns)
theorem eqv_ints : ∀ ns ms : List Int, PyData.eqvAll (ns.map PyData.int) (ms.map PyData.int) = decide (ns = ms)
  | [], [] => by simp [PyData.eqvAll]
  | [], _ :: _ => by simp [PyData.eqvAll]
  | _ :: _, [] => by simp [PyData.eqvAll]
  | a :: ns, b :: ms => by
    simp only [List.map_cons, PyData.eqvAll, PyData.eqv, eqv_ints ns ms, List.cons.injEq]
    rw [Bool.eq_iff_iff]
    simp
theorem lay_ints : ∀ ns : List Int, PyData.canLayAll0 (ns.map PyData.int) = true
  | [] => by simp [PyData.canLayAll0]
  | n :: ns => by simp [PyData.canLayAll0, PyData.canLay0, lay_ints ns]
theorem dep_ints : ∀ ns : List Int, PyData.depthAll (ns.map PyData.int) ≤ 1
  | [] => by simp [PyData.depthAll]
  | n :: ns => by
    have := dep_ints ns
    simp only [List.map_cons, PyData.depthAll, PyData.depth]
    omega
theorem shaped_ints (ns : List Int) : SeqAt.shaped (.list (ns.map PyData.int)) = true := by
  have h1 := lay_ints ns
  have h2 := dep_ints ns
  have h3 : (PyData.list (ns.map PyData.int)).depth ≤ 2 := by
    simp only [PyData.depth]
    omega
  unfold SeqAt.shaped
  rw [Bool.and_eq_true, decide_eq_true_eq]
  exact ⟨by simpa only [PyData.canLay0] using h1, by omega⟩
theorem mul_bd {a b A B : Int} (h1 : 0 ≤ a) (h2 : a ≤ A) (h3 : 0 ≤ b) (h4 : b ≤ B) : 0 ≤ a * b ∧ a * b ≤ A * B :=
  ⟨Int.mul_nonneg h1 h3, Int.mul_le_mul h2 h4 h3 (Int.le_trans h1 h2)⟩
section
variable {P : Program} {w : World} {K : PySem.W.Frag} {mg : Str → Option Value} {base : Heap}
abbrev s_pen : Stmt := top 40
theorem sc_pen : FnScope ["_law_script"] ["_law_script"] (defScope s_pen) := ⟨rfl, rfl, rfl, by decide +kernel, rfl, by decide +kernel, by decide +kernel⟩
def sp_pen (K : PySem.W.Frag) : Sp := fun vs H Q _ => ∃ a, ∃ ns : List Int, vs = [.ref a] ∧ SqL K H a (ns.map V.int) ∧ ns.length ≤ 63 ∧ ∀ p L H', Same H H' → Pen H' p L 0 → Q (.ref p) H'
theorem cut_ints (ns : List Int) (lo hi : Option Int) : ∃ ns' : List Int, cutV (ns.map V.int) lo hi = ns'.map V.int ∧ ns'.length ≤ ns.length := by
  refine ⟨(ns.drop (HT.sIx (ns.map V.int).length 0 lo)).take (HT.sIx (ns.map V.int).length (ns.map V.int).length hi - HT.sIx (ns.map V.int).length 0 lo), ?_, ?_⟩
  · unfold cutV
    rw [List.map_take, List.map_drop]
  · rw [List.length_take, List.length_drop]
    omega
theorem ok_pen {f : Addr} {fd : FuncData} (F : Fun K "_law_pen" "_law_pen" s_pen f fd) (z_list : mg "list" = none) : FnOk P w K mg base CX0 1 f fd ["_law_script"] (sp_pen K) := by
  refine F.ok sc_pen (fun vs H Q E h => ?_) (fun cdv A outer s H vs Q E hr h => ?_)
  · obtain ⟨a, ns, rfl, _⟩ := h
    rfl
  · obtain ⟨a, ns, rfl, ha, hz, q⟩ := h
    refine ⟨_, (pss_one (ps_ret (pe_lst (pa_cons (pe_callTy call_list_of (by rfl) z_list (by decide +kernel) (pa_cons (pe_slice sl_list (pv 0) po_none (po_some pe_int)) pa_nil)) (pa_cons pe_int (pa_cons pe_int pa_nil)))))), ?_⟩
    walk_at "rd"
    refine ⟨_, rfl, 63, rfl, a, _, rfl, ha, fun p hp => ?_⟩
    obtain ⟨ns', e, hl⟩ := cut_ints ns none (some 63)
    rw [e]
    obtain ⟨H1, e1, s1, h1⟩ := new_heap (o := .lst (ns'.map V.int)) hp
    rw [e1]
    walk_at "rd"
    intro l hl'
    obtain ⟨H2, e2, s2, h2⟩ := new_heap (o := .lst (ns'.map V.int)) hl'
    rw [e2]
    walk_at "rd"
    refine ⟨size_of (Nat.le_of_ble_eq_true rfl), fun r hr => ?_⟩
    obtain ⟨H3, e3, s3, h3⟩ := new_heap (o := .lst [.ref l, .int 0, .int 0]) hr
    rw [e3]
    exact q r l H3 (fun b o z => s3 _ _ (s2 _ _ (s1 _ _ z))) ⟨ns', 0, 0, h3, s3 _ _ h2, by omega, Int.le_refl _, Int.le_refl _, Int.le_refl _⟩
abbrev s_draw : Stmt := top 41
theorem sc_draw : FnScope ["_law_pen_here", "_law_many", "_law_digit", "_law_at", "_law_cell", "_law_large", "_law_mixed"] ["_law_pen_here", "_law_many"] (defScope s_draw) := ⟨rfl, rfl, rfl, by decide +kernel, rfl, by decide +kernel, by decide +kernel⟩
def sp_draw : Sp := fun vs H Q _ => ∃ p L n m, vs = [.ref p, .int m] ∧ Pen H p L n ∧ n ≤ 10000 ∧ 0 < m ∧ m ≤ 1000000000000 ∧ ∀ d H', 0 ≤ d → d < m → Keep H H' → Pen H' p L (n + 1) → Q (.int d) H'
theorem ok_draw {f : Addr} {fd : FuncData} (F : Fun K "_law_draw" "_law_draw" s_draw f fd) (z_int : mg "int" = none) (z_len : mg "len" = none) (z_abs : mg "abs" = none) : FnOk P w K mg base CX0 1 f fd ["_law_pen_here", "_law_many"] sp_draw := by
  refine F.ok sc_draw (fun vs H Q E h => ?_) (fun cdv A outer s H vs Q E hr h => ?_)
  · obtain ⟨p, L, n, m, rfl, _⟩ := h
    rfl
  · obtain ⟨p, L, n, m, rfl, ⟨ns, a, l, hp, hL, hz, a0, an, l0⟩, hn, m0, m1, q⟩ := h
    refine ⟨_, (pss_cons (ps_if (pt_cmpR op_gt (pe_ix ix_list (pv 0) pe_int (fun _ _ => rfl)) pe_int (nomark _))
 (pss_cons (ps_set (i := 2) sc_draw.nd rfl (Or.inl rfl) (pe_op op_mod (pe_callTy call_int1 (by rfl) z_int (by decide +kernel) (pa_cons (pe_ix ix_list (pv 0) pe_int (fun _ _ => rfl)) pa_nil)) (pv 1)))
 (pss_cons (ps_asg (pe_op op_fdivW (pe_ix ix_list (pv 0) pe_int (fun _ _ => rfl)) (pv 1)) (pg_sub (pv 0) pe_int set_list))
 (pss_one (ps_ret (pv 2)))))
 pss_nil)
 (pss_cons (ps_set (i := 3) sc_draw.nd rfl (Or.inl rfl) (pe_ix ix_list (pv 0) pe_int (fun _ _ => rfl)))
 (pss_cons (ps_asg (pe_op op_add (pv 3) pe_int) (pg_sub (pv 0) pe_int set_list))
 (pss_cons (ps_set (i := 4) sc_draw.nd rfl (Or.inl rfl) (pe_op op_add (pe_op op_mul pe_int (pv 3)) pe_int))
 (pss_cons (ps_if (pt_cmpR (op_neD hr.units) (pe_ix ix_list (pv 0) pe_int (fun _ _ => rfl)) (pe_lst pa_nil) (nomark _))
 (pss_one (ps_set (i := 4) sc_draw.nd rfl (Or.inl rfl) (pe_ix ix_list (pe_ix ix_list (pv 0) pe_int (fun _ _ => rfl)) (pe_op op_mod (pe_callTy call_int1 (by rfl) z_int (by decide +kernel) (pa_cons (pv 3) pa_nil)) (pe_callB call_len_seq (by rfl) z_len PySem.boot_len (pa_cons (pe_ix ix_list (pv 0) pe_int (fun _ _ => rfl)) pa_nil))) (fun _ _ => rfl))))
 pss_nil)
 (pss_cons (ps_if (PW.pt (pw_and (pt_cmpR op_lt (pv 3) (pe_callB call_len_seq (by rfl) z_len PySem.boot_len (pa_cons (pe_ix ix_list (pv 0) pe_int (fun _ _ => rfl)) pa_nil)) (nomark _)) (pw_and1 (pt_cmpR op_ge (pe_callB call_abs (by rfl) z_abs (by decide +kernel) (pa_cons (pv 4) pa_nil)) (pe_op op_pow pe_int pe_int) (nomark _)))))
 (pss_cons (ps_set (i := 5) sc_draw.nd rfl (Or.inl rfl) (pe_op op_add (pe_op op_mul pe_int (pe_callB call_abs (by rfl) z_abs (by decide +kernel) (pa_cons (pv 4) pa_nil))) (pe_callTy call_int1 (by rfl) z_int (by decide +kernel) (pa_cons (pe_cmpR op_lt (pv 4) pe_int (nomark _)) pa_nil))))
 (pss_cons (ps_asg (pe_op op_fdivW (pv 5) (pv 1)) (pg_sub (pv 0) pe_int set_list))
 (pss_one (ps_ret (pe_op op_mod (pe_callTy call_int1 (by rfl) z_int (by decide +kernel) (pa_cons (pv 5) pa_nil)) (pv 1))))))
 pss_nil)
 (pss_cons (ps_set (i := 6) sc_draw.nd rfl (Or.inl rfl) (pe_op op_mod (pe_op op_pow (pe_callTy call_int1 (by rfl) z_int (by decide +kernel) (pa_cons (pe_op op_add (pe_op op_add (pe_op op_mod (pe_callTy call_int1 (by rfl) z_int (by decide +kernel) (pa_cons (pv 4) pa_nil)) pe_int) (pe_op op_mul pe_int (pv 3))) pe_int) pa_nil)) pe_int) pe_int))
 (pss_cons (ps_set (i := 6) sc_draw.nd rfl (Or.inl rfl) (pe_op op_mod (pe_op op_pow (pe_callTy call_int1 (by rfl) z_int (by decide +kernel) (pa_cons (pe_op op_add (pe_op op_add (pe_op op_mul (pv 6) (pe_op op_add (pe_op op_mul pe_int (pv 3)) pe_int)) (pe_op op_mul (pe_op op_mul pe_int (pv 3)) (pv 3))) pe_int) pa_nil)) pe_int) pe_int))
 (pss_one (ps_ret (pe_op op_mod (pe_callTy call_int1 (by rfl) z_int (by decide +kernel) (pa_cons (pe_op op_fdivW (pv 6) pe_int) pa_nil)) (pv 1)))))))))))), ?_⟩
    have wd : ∀ i : Int, CDivW i m := fun i => wide_div (b := 64) m0 (by omega) (by decide) (by decide)
    walk_at "rd"
    refine ite_d (fun h => ?_) (fun h => ?_)
    · walk_at "rd"
      refine i_rI (wd _) ?_
      walk_at "rd"
      refine i_setL hp (j := 2) rfl ?_
      walk_at "rd"
      obtain ⟨k, pe⟩ := pen_set (a' := a) (l' := l / m) (n := n + 1) hp hL hz a0 (by omega) (Int.ediv_nonneg l0 (by omega))
      exact q _ _ (Int.emod_nonneg _ (by omega)) (Int.emod_lt_of_pos _ m0) k pe
    · walk_at "rd"
      refine i_setL hp (j := 1) rfl ?_
      obtain ⟨H1, e1, k1, hp1, hL1⟩ := pen_put (a' := a + 1) (l' := l) hp hL
      rw [show ([V.ref L, .int a, .int l].set 1 (.int (a + 1))) = [.ref L, .int (a + 1), .int l] from rfl, e1]
      walk_at "rd"
      refine ⟨Nat.zero_le _, fun r hr => ?_⟩
      obtain ⟨H2, e2, s2, h2⟩ := new_heap (o := .lst []) hr
      rw [e2]
      have hp2 := s2 _ _ hp1
      have hL2 := s2 _ _ hL1
      have k2 : Keep H H2 := k1.trans (Same.keep s2)
      refine ⟨.list (ns.map PyData.int), .list (([] : List Int).map PyData.int), .lst (SqL.of hL2) (dps_ints ns), .lst (SqL.of h2) .nil, shaped_ints ns, shaped_ints [], ?_⟩
      rw [show PyData.eqv (.list (ns.map PyData.int)) (.list (([] : List Int).map PyData.int)) = decide (ns = []) from eqv_ints ns []]
      -- the end of the draw, from the cell on
      have fin : ∀ (l' d : Int), 0 ≤ l' → 0 ≤ d → d < m → Q (.int d) (upd H2 p (.lst [.ref L, .int (a + 1), .int l'])) := fun l' d hl' hd0 hd1 => by
        obtain ⟨k, pe⟩ := pen_set (a' := a + 1) (l' := l') (n := n + 1) hp2 hL2 hz (by omega) (by omega) hl'
        exact q _ _ hd0 hd1 (k2.trans k) pe
      have same : upd H2 p (.lst [.ref L, .int (a + 1), .int l]) = H2 := by
        funext b
        unfold upd
        split
        · rename_i e
          rw [e, hp2]
        · rfl
      have fin0 : ∀ d : Int, 0 ≤ d → d < m → Q (.int d) H2 := fun d h0 h1 => by
        rw [← same]
        exact fin l d l0 h0 h1
      walk_at "rd"
      refine ite_nd (fun hne => ?_) (fun he => ?_)
      · walk_at "rd"
        have hpos : (0 : Int) < ((ns.map V.int).length : Int) := by
          cases ns with
          | nil => exact absurd rfl hne
          | cons x xs => simp
        refine i_rI hpos ?_
        have hlen : ((ns.map V.int).length : Int) = (ns.length : Int) := by rw [List.length_map]
        rw [hlen] at hpos ⊢
        have i0 := Int.emod_nonneg a (b := (ns.length : Int)) (by omega)
        have i1 := Int.emod_lt_of_pos a hpos
        obtain ⟨j, hj⟩ : ∃ j : Nat, a % (ns.length : Int) = (j : Int) := ⟨(a % (ns.length : Int)).toNat, by omega⟩
        rw [hj]
        have hjl : j < ns.length := by omega
        refine i_ixL hL2 (atI_nat (by rw [List.getElem?_map, List.getElem?_eq_getElem hjl]; rfl)) ?_
        generalize ns[j] = c
        walk_at "rd"
        have c0 := Int.emod_nonneg c (b := 2147483549) (by decide)
        have c1 := Int.emod_lt_of_pos c (b := 2147483549) (by decide)
        refine ite_d (fun h1 => ?_) (fun h1 => ?_)
        · walk_at "rd"
          refine ite_d (fun h2 => ?_) (fun h2 => ?_)
          · walk_at "rd"
            refine i_rI (wd _) ?_
            walk_at "rd"
            refine i_setL hp2 (j := 2) rfl ?_
            walk_at "rd"
            refine fin _ _ (Int.ediv_nonneg ?_ (by omega)) (Int.emod_nonneg _ (by omega)) (Int.emod_lt_of_pos _ m0)
            split <;> split <;> omega
          · walk_at "rd"
            refine i_rI ⟨by decide, by decide, by omega⟩ ?_
            walk_at "rd"
            generalize hx : (c % 2147483549 + 63331 * a + 34) ^ (5 : Int).toNat % 2147483579 = x
            have x0 : 0 ≤ x := by rw [← hx]; exact Int.emod_nonneg _ (by decide)
            have x1 : x < 2147483579 := by rw [← hx]; exact Int.emod_lt_of_pos _ (by decide)
            refine i_rI (.inl ⟨by omega, by omega⟩) ?_
            walk_at "rd"
            refine i_rI (.inl ⟨by omega, by omega⟩) ?_
            walk_at "rd"
            have b1 := mul_bd x0 (Int.le_of_lt x1) (b := 2 * a + 57) (B := 20100) (by omega) (by omega)
            have b2 := mul_bd (a := 70001 * a) (A := 70001 * 10001) (by omega) (by omega) a0 (B := 10001) (by omega)
            refine i_rI ⟨by decide, by decide, by omega⟩ ?_
            walk_at "rd"
            refine i_rI (wide_div (b := 8) (by decide) (by decide) (by decide) (by decide)) ?_
            walk_at "rd"
            exact fin0 _ (Int.emod_nonneg _ (by omega)) (Int.emod_lt_of_pos _ m0)
        · refine iteF ?_
          walk_at "rd"
          refine i_rI ⟨by decide, by decide, by omega⟩ ?_
          walk_at "rd"
          generalize hx : (c % 2147483549 + 63331 * a + 34) ^ (5 : Int).toNat % 2147483579 = x
          have x0 : 0 ≤ x := by rw [← hx]; exact Int.emod_nonneg _ (by decide)
          have x1 : x < 2147483579 := by rw [← hx]; exact Int.emod_lt_of_pos _ (by decide)
          refine i_rI (.inl ⟨by omega, by omega⟩) ?_
          walk_at "rd"
          refine i_rI (.inl ⟨by omega, by omega⟩) ?_
          walk_at "rd"
          have b1 := mul_bd x0 (Int.le_of_lt x1) (b := 2 * a + 57) (B := 20100) (by omega) (by omega)
          have b2 := mul_bd (a := 70001 * a) (A := 70001 * 10001) (by omega) (by omega) a0 (B := 10001) (by omega)
          refine i_rI ⟨by decide, by decide, by omega⟩ ?_
          walk_at "rd"
          refine i_rI (wide_div (b := 8) (by decide) (by decide) (by decide) (by decide)) ?_
          walk_at "rd"
          exact fin0 _ (Int.emod_nonneg _ (by omega)) (Int.emod_lt_of_pos _ m0)
      · subst he
        walk_at "rd"
        generalize 53189 * a + 20 = c
        have c0 := Int.emod_nonneg c (b := 2147483549) (by decide)
        have c1 := Int.emod_lt_of_pos c (b := 2147483549) (by decide)
        refine ite_d (fun h1 => ?_) (fun h1 => ?_)
        · walk_at "rd"
          refine ite_d (fun h2 => ?_) (fun h2 => ?_)
          · walk_at "rd"
            refine i_rI (wd _) ?_
            walk_at "rd"
            refine i_setL hp2 (j := 2) rfl ?_
            walk_at "rd"
            refine fin _ _ (Int.ediv_nonneg ?_ (by omega)) (Int.emod_nonneg _ (by omega)) (Int.emod_lt_of_pos _ m0)
            split <;> split <;> omega
          · walk_at "rd"
            refine i_rI ⟨by decide, by decide, by omega⟩ ?_
            walk_at "rd"
            generalize hx : (c % 2147483549 + 63331 * a + 34) ^ (5 : Int).toNat % 2147483579 = x
            have x0 : 0 ≤ x := by rw [← hx]; exact Int.emod_nonneg _ (by decide)
            have x1 : x < 2147483579 := by rw [← hx]; exact Int.emod_lt_of_pos _ (by decide)
            refine i_rI (.inl ⟨by omega, by omega⟩) ?_
            walk_at "rd"
            refine i_rI (.inl ⟨by omega, by omega⟩) ?_
            walk_at "rd"
            have b1 := mul_bd x0 (Int.le_of_lt x1) (b := 2 * a + 57) (B := 20100) (by omega) (by omega)
            have b2 := mul_bd (a := 70001 * a) (A := 70001 * 10001) (by omega) (by omega) a0 (B := 10001) (by omega)
            refine i_rI ⟨by decide, by decide, by omega⟩ ?_
            walk_at "rd"
            refine i_rI (wide_div (b := 8) (by decide) (by decide) (by decide) (by decide)) ?_
            walk_at "rd"
            exact fin0 _ (Int.emod_nonneg _ (by omega)) (Int.emod_lt_of_pos _ m0)
        · refine iteF ?_
          walk_at "rd"
          refine i_rI ⟨by decide, by decide, by omega⟩ ?_
          walk_at "rd"
          generalize hx : (c % 2147483549 + 63331 * a + 34) ^ (5 : Int).toNat % 2147483579 = x
          have x0 : 0 ≤ x := by rw [← hx]; exact Int.emod_nonneg _ (by decide)
          have x1 : x < 2147483579 := by rw [← hx]; exact Int.emod_lt_of_pos _ (by decide)
          refine i_rI (.inl ⟨by omega, by omega⟩) ?_
          walk_at "rd"
          refine i_rI (.inl ⟨by omega, by omega⟩) ?_
          walk_at "rd"
          have b1 := mul_bd x0 (Int.le_of_lt x1) (b := 2 * a + 57) (B := 20100) (by omega) (by omega)
          have b2 := mul_bd (a := 70001 * a) (A := 70001 * 10001) (by omega) (by omega) a0 (B := 10001) (by omega)
          refine i_rI ⟨by decide, by decide, by omega⟩ ?_
          walk_at "rd"
          refine i_rI (wide_div (b := 8) (by decide) (by decide) (by decide) (by decide)) ?_
          walk_at "rd"
          exact fin0 _ (Int.emod_nonneg _ (by omega)) (Int.emod_lt_of_pos _ m0)
end
end Spk

set_option Elab.async false
set_option linter.all false
set_option maxRecDepth 100000
set_option maxHeartbeats 0
namespace Spk
open PySem L2
/-! ### what the top leaves -/
abbrev at1 (x : Str) : PySem.W.Frag → Addr := fun K => He.ga K x
abbrev atM (c m : Str) : PySem.W.Frag → Addr := fun K => He.ma K (He.ga K c) m
abbrev atC (c m : Str) : PySem.W.Frag → Addr := fun K => He5.wf K (He.ga K c) "classmethod" m
abbrev atP (c m : Str) : PySem.W.Frag → Addr := fun K => He5.wf K (He.ga K c) "property" m
/-- where a keyword's value stands -/
def kwA (K : PySem.W.Frag) (f : Addr) (x : Str) : Addr := match K.lookup f with
  | some o => (match o.data with
    | .func fd => (match fd.kwdefaults with
      | .ref D => (match PySem.W.nsIn K D x with
        | some (some (.ref a)) => a
        | _ => 0)
      | _ => 0)
    | _ => 0)
  | none => 0
def kwa (x : Str) : PySem.W.Frag → Addr := fun K => kwA K (He5.wf K (He.ga K "Table") "classmethod" "of") x
def dfk (a : PySem.W.Frag → Addr) (x q : Str) (st : Stmt) : He5.DefA := ⟨a, x, q, defArgs st, defBody st, defScope st, [], [("fixed", .adr (kwa "fixed")), ("unique", .adr (kwa "unique")), ("reuse", .bl true)]⟩
def kwi (x : Str) : PySem.W.Frag → Addr := fun K => kwA K (He.ma K (He.ga K "Table") "__init__") x
def dfi (a : PySem.W.Frag → Addr) (x q : Str) (st : Stmt) : He5.DefA := ⟨a, x, q, defArgs st, defBody st, defScope st, [], [("fixed", .adr (kwi "fixed")), ("unique", .adr (kwi "unique")), ("reuse", .bl true)]⟩
def dfn (a : PySem.W.Frag → Addr) (x q : Str) (st : Stmt) : He5.DefA := ⟨a, x, q, defArgs st, defBody st, defScope st, [], []⟩
def defs : List He5.DefA := [dfn (at1 "start_of") "start_of" "start_of" (top 7),
  dfn (at1 "joined") "joined" "joined" (top 8),
  dfn (at1 "touches") "touches" "touches" (top 9),
  dfn (at1 "later_end") "later_end" "later_end" (top 10),
  dfn (at1 "in_parts") "in_parts" "in_parts" (top 12),
  dfn (at1 "all_columns") "all_columns" "all_columns" (top 15),
  dfn (at1 "truth_of") "truth_of" "truth_of" (top 16),
  dfn (at1 "truth_within") "truth_within" "truth_within" (top 17),
  dfn (at1 "both") "both" "both" (top 18),
  dfn (at1 "either") "either" "either" (top 19),
  dfn (at1 "negated") "negated" "negated" (top 20),
  dfn (at1 "is_number") "is_number" "is_number" (top 22),
  dfn (at1 "is_value") "is_value" "is_value" (top 23),
  dfn (at1 "is_name") "is_name" "is_name" (top 24),
  dfn (at1 "are_names") "are_names" "are_names" (top 25),
  dfn (at1 "is_key") "is_key" "is_key" (top 26),
  dfn (at1 "sequence_of") "sequence_of" "sequence_of" (top 27),
  dfn (at1 "are_chosen") "are_chosen" "are_chosen" (top 31),
  dfn (at1 "in_order_of") "in_order_of" "in_order_of" (top 32),
  dfn (at1 "rows_by_key") "rows_by_key" "rows_by_key" (top 33),
  dfn (at1 "unique_places") "unique_places" "unique_places" (top 34),
  dfn (at1 "why_not") "why_not" "why_not" (top 35),
  dfn (at1 "why_not_inserted") "why_not_inserted" "why_not_inserted" (top 36),
  dfn (at1 "why_not_updated") "why_not_updated" "why_not_updated" (top 37),
  dfn (at1 "is_taken") "is_taken" "is_taken" (top 38),
  dfn (at1 "_law_pen") "_law_pen" "_law_pen" (top 40),
  dfn (at1 "_law_draw") "_law_draw" "_law_draw" (top 41),
  dfn (at1 "_law_some") "_law_some" "_law_some" (top 42),
  dfn (at1 "_law_region") "_law_region" "_law_region" (top 43),
  dfn (at1 "_law_key") "_law_key" "_law_key" (top 44),
  dfn (at1 "_law_row") "_law_row" "_law_row" (top 45),
  dfn (at1 "_law_call") "_law_call" "_law_call" (top 46),
  dfn (at1 "_law_shape") "_law_shape" "_law_shape" (top 47),
  dfn (at1 "_law_word") "_law_word" "_law_word" (top 48),
  dfn (at1 "_law_steps_right") "_law_steps_right" "_law_steps_right" (top 49),
  dfn (at1 "_law_made_anew") "_law_made_anew" "_law_made_anew" (top 50),
  dfn (at1 "_law_taken_back") "_law_taken_back" "_law_taken_back" (top 51),
  dfn (at1 "law") "law" "law" (top 52),
  dfn (atM "InvalidTable" "__init__") "__init__" "InvalidTable.__init__" (inClass (top 3) 0),
  dfn (atM "InvalidChange" "__init__") "__init__" "InvalidChange.__init__" (inClass (top 4) 0),
  dfn (atM "Ranges" "__init__") "__init__" "Ranges.__init__" (inClass (top 6) 0),
  dfn (atM "Filter" "__init__") "__init__" "Filter.__init__" (inClass (top 14) 0),
  dfn (atM "Filter" "__and__") "__and__" "Filter.__and__" (inClass (top 14) 5),
  dfn (atM "Filter" "__invert__") "__invert__" "Filter.__invert__" (inClass (top 14) 7),
  dfi (atM "Table" "__init__") "__init__" "Table.__init__" (inClass (top 29) 1),
  dfn (atM "Table" "is_row") "is_row" "Table.is_row" (inClass (top 29) 3),
  dfn (atM "Table" "key_of") "key_of" "Table.key_of" (inClass (top 29) 4),
  dfn (atM "Table" "cut") "cut" "Table.cut" (inClass (top 29) 5),
  dfn (atM "Truth" "__init__") "__init__" "Truth.__init__" (inClass (top 30) 0),
  dfn (atM "Truth" "insert") "insert" "Truth.insert" (inClass (top 30) 1),
  dfn (atM "Truth" "update") "update" "Truth.update" (inClass (top 30) 2),
  dfn (atM "Truth" "delete") "delete" "Truth.delete" (inClass (top 30) 3),
  dfn (atM "Truth" "change") "change" "Truth.change" (inClass (top 30) 4),
  dfn (atM "Truth" "write") "write" "Truth.write" (inClass (top 30) 5),
  dfn (atP "Truth" "rows") "rows" "Truth.rows" (inClass (top 30) 6),
  dfn (atP "Truth" "stamp") "stamp" "Truth.stamp" (inClass (top 30) 7),
  dfn (atM "Truth" "row_of") "row_of" "Truth.row_of" (inClass (top 30) 8),
  dfn (atM "Truth" "stamp_of") "stamp_of" "Truth.stamp_of" (inClass (top 30) 9),
  dfn (atM "Truth" "__len__") "__len__" "Truth.__len__" (inClass (top 30) 11),
  dfn (atM "Truth" "__contains__") "__contains__" "Truth.__contains__" (inClass (top 30) 12),
  dfn (atC "Ranges" "of") "of" "Ranges.of" (inClass (top 6) 1),
  dfn (atC "Ranges" "between") "between" "Ranges.between" (inClass (top 6) 2),
  dfn (atC "Filter" "within") "within" "Filter.within" (inClass (top 14) 1),
  dfn (atC "Filter" "always") "always" "Filter.always" (inClass (top 14) 3),
  dfk (atC "Table" "of") "of" "Table.of" (inClass (top 29) 2)]
def names : List Str := "start_of" :: "joined" :: "touches" :: "later_end" :: "in_parts" :: "all_columns" :: "truth_of" :: "truth_within" :: "both" :: "either" :: "negated" :: "is_number" :: "is_value" :: "is_name" :: "are_names" :: "is_key" :: "sequence_of" :: "are_chosen" :: "in_order_of" :: "rows_by_key" :: "unique_places" :: "why_not" :: "why_not_inserted" :: "why_not_updated" :: "is_taken" :: "_law_pen" :: "_law_draw" :: "_law_some" :: "_law_region" :: "_law_key" :: "_law_row" :: "_law_call" :: "_law_shape" :: "_law_word" :: "_law_steps_right" :: "_law_made_anew" :: "_law_taken_back" :: "law" :: "InvalidTable" :: "InvalidChange" :: "FeedError" :: "Ranges" :: "Filter" :: "Truth" :: "Table" :: []
def kits : List Str := ["abs", "all", "any", "bool", "dict", "enumerate", "int", "isinstance", "len", "list", "max", "range", "set", "sorted", "str", "tuple", "zip"]
def plain : List He.Fa := names.map He.Fa.glo ++ (kits.map He.Fa.free ++ [.cls "Table", .noat "Table" "columns", .noat "Table" "key", .noat "Table" "fixed", .noat "Table" "unique", .noat "Table" "reuse", .mkr "Table", .meth "Table" "is_row", .meth "Table" "key_of", .meth "Table" "cut", .cls "Ranges", .noat "Ranges" "parts", .mkr "Ranges", .meth "Ranges" "__eq__", .cls "Filter", .noat "Filter" "tree", .noat "Filter" "columns", .mkr "Filter", .meth "Filter" "__and__", .meth "Filter" "__invert__", .cls "Truth", .noat "Truth" "table", .noat "Truth" "region", .noat "Truth" "kept", .noat "Truth" "owners", .noat "Truth" "stamps", .noat "Truth" "changes", .mkr "Truth", .meth "Truth" "insert", .meth "Truth" "update", .meth "Truth" "delete", .meth "Truth" "change", .meth "Truth" "write", .meth "Truth" "row_of", .meth "Truth" "stamp_of", .meth "Truth" "__len__", .meth "Truth" "__contains__"])
def emptyB (K : PySem.W.Frag) (a : Addr) : Bool := match K.lookup a with
  | some o => o.cls == .type "tuple" && (match o.data with | .seq its _ => its.size == 0 | _ => false)
  | none => false
def mostB (K : PySem.W.Frag) (C : Addr) : Bool := match PySem.W.findCls K (.ref C) (.type "type") "MOST_COLUMNS" with
  | some (.val (.int i _)) => decide (i = 4)
  | _ => false
def six : List String := ["NoneType", "bool", "int", "str", "list", "tuple"]
/-- what else is told of the class -/
def eqB (K : PySem.W.Frag) (C : Addr) : Bool :=
  (decide (PySem.W.findIn K (.ref C) "__ne__" = some (some (.builtin "object.__ne__"))) && (decide (PySem.W.subIn K (.ref C) (.type "object") = some true) && ((six.all fun t => decide (PySem.W.subIn K (.ref C) (.type t) = some false)) &&
  ((six.all fun t => decide (PySem.W.kitOne K (.type t) (.ref C) = some false)) && ((six.all fun t => PySem.W.notFirst K C (.type t)) && (decide (PySem.W.findIn K (.ref C) "__class__" = some (some (.builtin "object.__class__"))) &&
  (decide (PySem.W.specialIn K (.builtin "object.__class__") "__get__" = some (some (.builtin "getset_descriptor.__get__"))) && (decide (PySem.W.takesIn K (.builtin "object.__class__") = some true) && (decide (PySem.W.mroIn K C (.type "object") = some true) &&
  decide (PySem.W.kitOne K (.ref C) (.ref C) = some true))))))))))
def excObjB (C : Addr) (o : Obj) : Bool := o.cls == .type "type" && (match o.data with
  | .cls c => (match c.mro with | r :: bm => r == .ref C && PySem.HandSPX.refsVE bm | [] => false) && (c.hasDict && !c.hasDel)
  | _ => false) && (match o.slots.toList with
  | [_, _, _, _, some (.builtin n), _] => n == "ValueError.__new__"
  | _ => false)
/-- what is told of the error -/
def errB (K : PySem.W.Frag) (C E : Addr) : Bool :=
  (match K.lookup C with | some o => excObjB C o | none => false) && (decide (PySem.W.findIn K (.ref C) "__setattr__" = some (some (.builtin "object.__setattr__"))) && (decide (PySem.W.subIn K (.ref C) (.type "BaseException") = some true) &&
  (decide (PySem.W.typeIn K (.ref C) = some (.type "type")) && (PySem.W.keepIn K (.ref C) && (decide (PySem.W.findIn K (.ref C) "__init__" = some (some (.ref (He.ma K C "__init__")))) && (decide (PySem.W.typeIn K (.ref (He.ma K C "__init__")) = some (.type "function")) &&
  (decide (PySem.W.findIn K (.ref C) "reason" = some none) && (xfB K C && ((PySem.W.clsIn K C).isSome && (decide (PySem.W.findIn K (.ref C) "__class__" = some (some (.builtin "object.__class__"))) && (decide (PySem.W.mroIn K C (.type "object") = some true) &&
  (decide (PySem.W.kitOne K (.ref C) (.ref C) = some true) && decide (PySem.W.exmOne K (.ref C) (.ref E) = some true)))))))))))))
/-- a class's classmethods -/
def clmB (K : PySem.W.Frag) (C : Addr) (ms : List Str) : Bool := PySem.W.readsIn K C (.type "type") && (decide (PySem.W.specialIn K (.ref C) "__getattribute__" = some (some (.builtin "type.__getattribute__"))) && ms.all fun m => He5.wrapB K C "classmethod" "classmethod.__get__" m && PySem.W.fnIn K (He5.wf K C "classmethod" m))
/-- a property -/
def propB (K : PySem.W.Frag) (C : Addr) (m : Str) : Bool := decide (PySem.W.findIn K (.ref C) m = some (some (.ref (He.ma K C m)))) && (decide (PySem.W.specialIn K (.ref (He.ma K C m)) "__get__" = some (some (.builtin "property.__get__"))) && (decide (PySem.W.takesIn K (.ref (He.ma K C m)) = some true) &&
  (match PySem.W.recIn K (He.ma K C m) "property" with | some (.ref _ :: _) => true | _ => false)))
/-- what else is told of the classes -/
def moreB (K : PySem.W.Frag) : Bool :=
  errB K (He.ga K "InvalidTable") (He.ga K "FeedError") && (errB K (He.ga K "InvalidChange") (He.ga K "FeedError") && (emptyB K (kwi "fixed" K) && (emptyB K (kwi "unique" K) && (mostB K (He.ga K "Table") && (emptyB K (kwa "fixed" K) && (emptyB K (kwa "unique" K) &&
  (clmB K (He.ga K "Table") ["of"] && (clmB K (He.ga K "Ranges") ["between", "of"] && (clmB K (He.ga K "Filter") ["within", "always"] && (eqB K (He.ga K "Ranges") && (PySem.W.selfFirst K (He.ga K "Ranges") && (PySem.W.selfFirst K (He.ga K "Filter") &&
  (propB K (He.ga K "Truth") "rows" && propB K (He.ga K "Truth") "stamp")))))))))))))
/-- where to look: what the names reach in n steps, and what stands behind the classes' functions -/
def seeds : List (Str × Str) := [("Table", "__init__"), ("Table", "is_row"), ("Table", "key_of"), ("Table", "cut"), ("Table", "of"), ("Ranges", "__init__"), ("Ranges", "between"), ("Ranges", "of"), ("Filter", "__init__"), ("Filter", "__and__"), ("Filter", "__invert__"), ("Filter", "within"), ("Filter", "always"), ("Truth", "__init__"), ("Truth", "insert"), ("Truth", "update"), ("Truth", "delete"), ("Truth", "change"), ("Truth", "write"), ("Truth", "row_of"), ("Truth", "stamp_of"), ("Truth", "__len__"), ("Truth", "__contains__"), ("Truth", "rows"), ("Truth", "stamp"), ("InvalidTable", "__init__"), ("InvalidChange", "__init__")]
def asX (g : Addr → Option Obj) (n : Nat) : List Addr := He5.asA g n ++ He.growD g (He.growD g (He.growD g (seeds.map fun x => He.ma (He.frG g (He5.asA g n)) (He.ga (He.frG g (He5.asA g n)) x.1) x.2)))
abbrev Seen : Type := Bool × He.AlD
def seenAt (n : Nat) (g : Addr → Option Obj) : Seen := (moreB (He.frG g (asX g n)), He5.obsA plain defs (He.frG g (asX g n)))
def ToldX (K : PySem.W.Frag) : Prop := moreB K = true ∧ He5.SaysA plain defs K
def hook (n : Nat) : PySem.W.Hook where
  α := Seen
  obs := fun s => seenAt n s.heap.get?
  val := fun _ => (true, He5.valA defs)
  says := fun _ h => ∃ K : PySem.W.Frag, K.In h ∧ ToldX K
  of := fun _ _ e => ⟨_, He.frG_in, congrArg Prod.fst e, congrArg Prod.snd e⟩
  keeps := fun _ _ _ ⟨K, hK, c⟩ k => ⟨K, PySem.W.Frag.In.keeps hK k, c⟩
abbrev Rw : PySem.W.OpenRow := PySem.W.OpenLaw.row PySem.Challenge.rw_speaklast_k14_whole_steps_tell_made_rows
abbrev hk : PySem.W.Hook := hook 3
def obT (s : PySem.W.SharedT) : Seen := seenAt 3 (HandSHeadRun.getT s)
theorem obT_eq (s : PySem.W.SharedT) : obT s = hk.obs s.abs := by
  have e : HandSHeadRun.getT s = s.abs.heap.get? := funext (HandSHeadRun.getT_eq s)
  unfold obT
  rw [e]
  rfl
def loose : List Str := "_wall" :: "FeedError" :: "InvalidTable" :: "InvalidChange" :: "Ranges" :: "start_of" :: "joined" :: "touches" :: "later_end" :: "gaps" :: "in_parts" :: "Filter" :: "all_columns" :: "truth_of" :: "truth_within" :: "both" :: "either" :: "negated" :: "is_number" :: "is_value" :: "is_name" :: "are_names" :: "is_key" :: "sequence_of" :: "Table" :: "Truth" :: "are_chosen" :: "in_order_of" :: "rows_by_key" :: "unique_places" :: "why_not" :: "why_not_inserted" :: "why_not_updated" :: "is_taken" :: "_law_pen" :: "_law_draw" :: "_law_some" :: "_law_region" :: "_law_key" :: "_law_row" :: "_law_call" :: "_law_shape" :: "_law_word" :: "_law_steps_right" :: "_law_made_anew" :: "_law_taken_back" :: []
theorem pair_map {σ A B C E : Type} {o : Option σ} {f : σ → A} {g : σ → B} {h1 : σ → C} {h2 : σ → E} {a : A} {b : B} {c : C} {d : E} (e1 : o.map (fun s => (f s, g s, h1 s)) = some (a, b, c)) (e2 : o.map h2 = some d) : o.map (fun s => (f s, g s, (h1 s, h2 s))) = some (a, b, (c, d)) := by
  cases o with
  | none => cases e1
  | some s =>
    simp only [Option.map_some, Option.some.injEq, Prod.mk.injEq] at e1 e2 ⊢
    exact ⟨e1.1, e1.2.1, e1.2.2, e2⟩
open PySem.W HandSHeadRun PyProof.Rows in
/-- the run, and what is told of the classes -/
theorem runs1 (w : World) (os : OsState) : (endF (stepQ (denQ tabQ) Rw.prog w) 6000 Rw.prog w os).map (fun s => (looksF Rw.prog (boot_heap w.params) s.abs, seenQ (PySem.W.view Rw.prog [52]) loose (importedModules Rw.prog.main.body) (fun s => xlAt (PySem.W.view Rw.prog [52]) [] s && recOk Rw.toRowW.records s) s.abs, moreB (He.frG (getT s) (asX (getT s) 3)))) = some (true, openGood (PySem.W.view Rw.prog [52]) loose, true) := by
  kernel_rfl
open PySem.W HandSHeadRun PyProof.Rows in
/-- the run, and what is told of the names and defs -/
theorem runs2 (w : World) (os : OsState) : (endF (stepQ (denQ tabQ) Rw.prog w) 6000 Rw.prog w os).map (fun s => He5.obsA plain defs (He.frG (getT s) (asX (getT s) 3))) = some (He5.valA defs) := by
  kernel_rfl
theorem runs (w : World) : HandSHeadRun.RunEq Rw (PySem.W.view Rw.prog [52]) hk obT 6000 loose w := fun os => pair_map (runs1 w os) (runs2 w os)
end Spk

set_option Elab.async false
set_option linter.all false
set_option maxRecDepth 100000
set_option maxHeartbeats 1000000
namespace Spk
open PySem L2
local macro_rules | `(tactic| walk_at "rd") => `(tactic| repeat (first
  | with_reducible refine i_seq ?_ | with_reducible refine i_asg ?_ | with_reducible refine i_ret ?_ | with_reducible refine i_ifS ?_ | with_reducible refine i_if ?_
  | with_reducible refine i_for ?_ | with_reducible refine i_iL ?_ | with_reducible refine i_iT ?_ | with_reducible refine i_ckw ?_ | with_reducible refine i_cm ?_ | with_reducible refine And.intro (rfl : V.ref _ = V.ref _) ?_ | with_reducible refine i_rng1 ?_ | with_reducible refine i_bm ?_ | with_reducible refine i_bm0 ?_
  | with_reducible refine i_drop ?_ | with_reducible refine i_next ?_
  | with_reducible refine i_var rfl ?_ | with_reducible refine i_c ?_ | with_reducible refine i_op ?_ | with_reducible refine i_un ?_ | with_reducible refine i_name ?_
  | with_reducible refine i_rI0 ?_ | with_reducible refine i_rU ?_ | with_reducible refine i_rEq rfl ?_ | with_reducible refine i_rNe rfl ?_
  | with_reducible refine i_test ?_ | with_reducible refine i_tB ?_ | with_reducible refine i_and ?_ | with_reducible refine i_or ?_ | with_reducible refine i_not ?_
  | with_reducible refine i_andV ?_ | with_reducible refine i_orV ?_ | with_reducible refine i_notV ?_
  | with_reducible refine i_cons ?_ | with_reducible refine i_nil ?_ | with_reducible refine i_cb ?_ | with_reducible refine i_call ?_ | with_reducible refine i_bl ?_
  | with_reducible refine i_tup ?_ | with_reducible refine i_lst ?_ | with_reducible refine i_par ?_ | with_reducible refine i_gcons ?_ | with_reducible refine i_gnil ?_
  | with_reducible refine And.intro (rfl : V.non = V.non) ?_ | with_reducible refine i_ixT (by assumption) rfl ?_ | with_reducible refine i_ixL (by assumption) rfl ?_ | with_reducible refine i_gtup (by assumption) rfl ?_
  | with_reducible refine i_gsub ?_
  | with_reducible refine Or.inl (Exists.intro _ (And.intro (rfl : [V.int _] = [V.int _]) ?_)) | with_reducible refine Exists.intro _ (And.intro (rfl : [V.int _] = [V.int _]) ?_)
  | with_reducible refine Or.inr (Exists.intro _ (And.intro (rfl : [V.bl _] = [V.bl _]) ?_))
  | with_reducible refine Exists.intro _ (Exists.intro _ (And.intro (rfl : [V.int _, V.int _] = [V.int _, V.int _]) ?_))
  | with_reducible refine Exists.intro _ (Exists.intro _ (And.intro (rfl : [V.ref _] = [V.ref _]) (And.intro (Or.inl (SqL.of (by assumption))) ?_)))
  | with_reducible refine i_rI (show (0 : Int) < _ by assumption) ?_ | with_reducible refine i_rI (show (0 : Int) < _ by decide) ?_
  | with_reducible refine i_rI (pow_ok (Nat.le_of_ble_eq_true rfl) (Nat.le_of_ble_eq_true rfl)) ?_
  | with_reducible refine i_rI (cmulL rfl) ?_))
theorem i_chain {r r' : R2} {ta tb tc : TE} {σ : L2.St} {H : Hp} {Q : VK} (h : ta σ H fun x H1 => tb σ H1 fun y H2 => r x y H2 fun z H3 => ∃ k, z = V.bl k ∧ if k = true then tc σ H3 fun w' H4 => r' y w' H4 Q else Q (V.bl false) H3) : tChain r r' ta tb tc σ H Q := h
theorem i_iS {te : TE} {σ : L2.St} {H : Hp} {R : It → Hp → Prop} (h : te σ H fun v H1 => ∃ x, v = V.str x ∧ R (Its x) H1) : iStr te σ H R := h
theorem ty_up {K : PySem.W.Frag} {H H' : Hp} {x : V} {t : Value} (e : Same H H') (h : TyX K H x t) : TyX K H' x t := by
  cases h with
  | base h =>
    refine .base ?_
    cases h with
    | non => exact .non
    | bl x => exact .bl x
    | int x => exact .int x
    | str x => exact .str x
    | flt x => exact .flt x
    | lst h => exact .lst (e _ _ h)
    | frz h => exact .frz (e _ _ h)
    | tup h => exact .tup (e _ _ h)
    | dK h => exact .dK (e _ _ h)
    | dT h => exact .dT (e _ _ h)
    | ins h a b c d f => exact .ins (e _ _ h) a b c d f
  | byt b => exact .byt b
  | set h => exact .set (e _ _ h)
  | kList h h2 => exact .kList h h2
  | kTuple h h2 => exact .kTuple h h2
  | kDict h h2 => exact .kDict h h2
  | fTuple h => exact .fTuple (e _ _ h)
  | fDict h => exact .fDict (e _ _ h)
/-! ### names -/
def okc (c : Nat) : Bool := decide (97 ≤ c ∧ c ≤ 122)
def nameB (z : Str) : Bool := decide (1 ≤ z.length) && (decide (z.length ≤ 8) && z.cps.toList.all okc)
/-- no text -/
def NoStr (K : PySem.W.Frag) (H : Hp) (y : V) : Prop := ∃ t, TyX K H y t ∧ PySem.W.kitOne K t (.type "str") = some false
/-- what is_name says of it -/
def NmV (K : PySem.W.Frag) (H : Hp) (y : V) (k : Bool) : Prop := (∃ z, y = .str z ∧ z.length ≤ 100 ∧ k = nameB z) ∨ (NoStr K H y ∧ k = false)
theorem NmV.up {K : PySem.W.Frag} {H H' : Hp} {y : V} {k : Bool} (e : Same H H') (h : NmV K H y k) : NmV K H' y k := by
  rcases h with h | ⟨⟨t, ty, o⟩, h⟩
  · exact .inl h
  · exact .inr ⟨⟨t, ty_up e ty, o⟩, h⟩
theorem lt_ch {a b : Nat} : (!decide ([b] < [a])) = decide (a ≤ b) := by
  rw [Bool.eq_iff_iff, Bool.not_eq_true', decide_eq_false_iff_not, decide_eq_true_eq]
  constructor
  · intro h
    refine Nat.le_of_not_lt fun q => h (List.cons_lt_cons_iff.mpr (.inl q))
  · intro h q
    rcases List.cons_lt_cons_iff.mp q with q | ⟨_, q⟩
    · omega
    · exact absurd q (List.lt_irrefl _)
theorem chars_a : ("a" : Str).cps.toList = [97] := rfl
theorem chars_z : ("z" : Str).cps.toList = [122] := rfl
theorem take_snoc {α : Type} {ts : List α} {i : Nat} {t : α} (h : ts[i]? = some t) : ts.take (i + 1) = ts.take i ++ [t] := by
  rw [List.take_add_one, h]
  rfl
theorem pair_at {α β : Type} {R : α → β → Prop} : ∀ {xs : List α} {ys : List β}, Paired R xs ys → ∀ {i : Nat} {x : α}, xs[i]? = some x → ∃ y, ys[i]? = some y ∧ R x y
  | _, _, .nil, i, x, h => by simp at h
  | _, _, .cons r t, 0, x, h => by
    cases h
    exact ⟨_, rfl, r⟩
  | _, _, .cons r t, i + 1, x, h => pair_at t (i := i) h
theorem onceTx_nd : ∀ (xs l : List Str), l.Nodup → (onceTx l xs).Nodup
  | [], _, h => h
  | x :: xs, l, h => by
    show (onceTx (withTx l x) xs).Nodup
    refine onceTx_nd xs _ ?_
    unfold withTx
    split
    · exact h
    · rename_i hx
      exact List.nodup_cons.mpr ⟨hx, h⟩
theorem onceTx_iff (cs : List Str) : (onceTx [] cs).length = cs.length ↔ cs.Nodup := by
  constructor
  · intro h
    have pm := perm_of_nodup (onceTx [] cs) cs (onceTx_nd cs [] List.nodup_nil) (fun x hx => ((onceTx_mem cs [] x).mp hx).elim id fun z => absurd z List.not_mem_nil) (Nat.le_of_eq h.symm)
    exact pm.nodup_iff.mpr (onceTx_nd cs [] List.nodup_nil)
  · intro h
    have e := onceTx_nodup cs [] (by simpa using h)
    simpa using e
theorem onceTx_le (cs : List Str) : (onceTx [] cs).length ≤ cs.length := by
  have := onceTx_len cs []
  simpa using this
section
variable {P : Program} {w : World} {K : PySem.W.Frag} {mg : Str → Option Value} {base : Heap}
abbrev s_is_name : Stmt := top 24
theorem sc_is_name : FnScope ["thing", "sign"] ["thing"] (defScope s_is_name) := ⟨rfl, rfl, rfl, by decide +kernel, rfl, by decide +kernel, by decide +kernel⟩
def sp_is_name (K : PySem.W.Frag) : Sp := fun vs H Q _ => ∃ y k, vs = [y] ∧ NmV K H y k ∧ ∀ H', Same H H' → Q (.bl k) H'
theorem ok_is_name {f : Addr} {fd : FuncData} (F : Fun K "is_name" "is_name" s_is_name f fd) (z_isinstance : mg "isinstance" = none) (z_str : mg "str" = none) (z_len : mg "len" = none) (z_all : mg "all" = none) : FnOk P w K mg base CX0 1 f fd ["thing"] (sp_is_name K) := by
  refine F.ok sc_is_name (fun vs H Q E h => ?_) (fun cdv A outer s H vs Q E hr h => ?_)
  · obtain ⟨y, k, rfl, _⟩ := h
    rfl
  · obtain ⟨y, k, rfl, h, q⟩ := h
    refine ⟨_, (pss_one (ps_ret (pe_and (pe_callB call_isi (by rfl) z_isinstance (by decide +kernel) (pa_cons (pv 0) (pa_cons (pe_bltn (v := .ty "str") (u := .type "str") (by rfl) z_str (by decide +kernel) rfl) pa_nil))) (pe_and (pe_chain op_le op_le pe_int (pe_callB call_len_str (by rfl) z_len PySem.boot_len (pa_cons (pv 0) pa_nil)) pe_int) (pe_one (pe_callB (cr_all rfl) (by rfl) z_all (by decide +kernel) (pa_cons (pe_lc (own := [("sign", 1)]) (g := gName 1) (tt := tYes) rfl sc_is_name.nd (pi_str (pv 0)) (blkOk_by (own := [("sign", 1)]) (N := ["thing", "sign"]) (sc := defScope s_is_name) (by decide +kernel)) (fun _ _ _ _ _ => pg_name (i := 1) sc_is_name.nd rfl (Or.inl rfl)) (fun _ _ _ _ _ => pts_nil) (fun _ _ _ _ _ => (pe_chain op_le_str op_le_str pe_str (pv 1) pe_str))) pa_nil))))))), ?_⟩
    walk_at "rd"
    rcases h with ⟨z, rfl, hz, rfl⟩ | ⟨⟨t, ty, o⟩, rfl⟩
    · refine ⟨_, _, _, _, true, rfl, .ty "str", .base (.str z), kit_ty (by decide +kernel), true, rfl, iteT ?_⟩
      walk_at "rd"
      refine i_chain ?_
      walk_at "rd"
      refine ⟨z, rfl, size_of (by omega), ?_⟩
      walk_at "rd"
      have q' := q
      unfold nameB at q'
      by_cases h1 : 1 ≤ z.length
      · rw [decide_eq_true (show (1 : Int) ≤ (z.length : Int) by omega)]
        rw [decide_eq_true h1, Bool.true_and] at q'
        refine iteT ?_
        walk_at "rd"
        by_cases h8 : z.length ≤ 8
        · rw [decide_eq_true (show (z.length : Int) ≤ 8 by omega)]
          rw [decide_eq_true h8, Bool.true_and] at q'
          refine iteT ?_
          walk_at "rd"
          unfold tLc
          refine i_iS ?_
          walk_at "rd"
          refine ⟨z, rfl, fun D hD => ?_⟩
          obtain ⟨H1, e1, s1, hd⟩ := new_heap (o := .lst []) hD
          refine lc_it walk_str (fun i H' => Same H H' ∧ H' D = some (.lst (((z.cps.toList.map okc).take i).map V.bl))) ⟨by rw [e1]; exact s1, by rw [e1]; exact hd⟩ (fun _ _ _ _ => trivial) ?_ ?_
          · rintro i x H2 H' hi ⟨s2, h2⟩ ⟨rfl, c, hc', rfl⟩
            have hm : z.cps.toList[i]? = some c := by rw [Array.getElem?_toList]; exact hc'
            have hm2 : (z.cps.toList.map okc)[i]? = some (okc c) := by rw [List.getElem?_map, hm]; rfl
            have fin : ∀ k, k = okc c → ∃ acc, H' D = some (HO.lst acc) ∧ acc.length < sizeLine ∧ Same H (upd H' D (HO.lst (acc ++ [V.bl k]))) ∧ (upd H' D (HO.lst (acc ++ [V.bl k]))) D = some (.lst (((z.cps.toList.map okc).take (i + 1)).map V.bl)) := by
              intro k ek
              refine ⟨_, h2, size_lt ?_, Same.mut s2 hD, ?_⟩
              · rw [List.length_map, List.length_take, List.length_map]
                have : z.cps.toList.length = z.length := by simp [Str.length]
                omega
              · rw [upd_same, take_snoc hm2, List.map_append, ek]
                rfl
            walk_at "rd"
            refine ⟨rfl, i_yes (iteT ?_)⟩
            refine i_chain ?_
            walk_at "rd"
            refine ⟨_, _, rfl, rfl, ?_⟩
            rw [chars_a, show (Str.mk #[c]).cps.toList = [c] from rfl, lt_ch]
            refine ⟨_, rfl, ite_d (fun ha => ?_) (fun ha => ?_)⟩
            · walk_at "rd"
              refine ⟨_, _, rfl, rfl, ?_⟩
              rw [chars_z, show (Str.mk #[c]).cps.toList = [c] from rfl, lt_ch]
              refine fin _ ?_
              unfold okc
              rw [decide_eq_decide]
              exact ⟨fun z => ⟨ha, z⟩, fun z => z.2⟩
            · refine fin false ?_
              unfold okc
              rw [eq_comm, decide_eq_false_iff_not]
              exact fun z => ha z.1
          · rintro H' ⟨s2, h2⟩
            have e : (z.cps.toList.map okc).take z.cps.size = z.cps.toList.map okc := List.take_of_length_le (by simp)
            rw [e] at h2
            walk_at "rd"
            refine ⟨D, z.cps.toList.map okc, rfl, SqL.of h2, ?_⟩
            rw [List.all_map]
            exact q' H' s2
        · rw [decide_eq_false (show ¬ (z.length : Int) ≤ 8 by omega)]
          rw [decide_eq_false h8, Bool.false_and] at q'
          exact iteF (q' H (Same.refl H))
      · rw [decide_eq_false (show ¬ (1 : Int) ≤ (z.length : Int) by omega)]
        rw [decide_eq_false h1, Bool.false_and] at q'
        refine iteF ?_
        exact ⟨false, rfl, iteF (q' H (Same.refl H))⟩
    · exact ⟨_, _, _, _, false, rfl, .ty "str", ty, o, false, rfl, iteF (q H (Same.refl H))⟩
end
end Spk

set_option Elab.async false
set_option linter.all false
set_option maxRecDepth 100000
set_option maxHeartbeats 1000000
namespace Spk
open PySem L2
local macro_rules | `(tactic| walk_at "rd") => `(tactic| repeat (first
  | with_reducible refine i_seq ?_ | with_reducible refine i_asg ?_ | with_reducible refine i_ret ?_ | with_reducible refine i_ifS ?_ | with_reducible refine i_if ?_
  | with_reducible refine i_for ?_ | with_reducible refine i_iL ?_ | with_reducible refine i_iT ?_ | with_reducible refine i_ckw ?_ | with_reducible refine i_cm ?_ | with_reducible refine And.intro (rfl : V.ref _ = V.ref _) ?_ | with_reducible refine i_rng1 ?_ | with_reducible refine i_bm ?_ | with_reducible refine i_bm0 ?_
  | with_reducible refine i_drop ?_ | with_reducible refine i_next ?_
  | with_reducible refine i_var rfl ?_ | with_reducible refine i_c ?_ | with_reducible refine i_op ?_ | with_reducible refine i_un ?_ | with_reducible refine i_name ?_
  | with_reducible refine i_rI0 ?_ | with_reducible refine i_rU ?_ | with_reducible refine i_rEq rfl ?_ | with_reducible refine i_rNe rfl ?_
  | with_reducible refine i_test ?_ | with_reducible refine i_tB ?_ | with_reducible refine i_and ?_ | with_reducible refine i_or ?_ | with_reducible refine i_not ?_
  | with_reducible refine i_andV ?_ | with_reducible refine i_orV ?_ | with_reducible refine i_notV ?_
  | with_reducible refine i_cons ?_ | with_reducible refine i_nil ?_ | with_reducible refine i_cb ?_ | with_reducible refine i_call ?_ | with_reducible refine i_bl ?_
  | with_reducible refine i_tup ?_ | with_reducible refine i_lst ?_ | with_reducible refine i_par ?_ | with_reducible refine i_gcons ?_ | with_reducible refine i_gnil ?_
  | with_reducible refine And.intro (rfl : V.non = V.non) ?_ | with_reducible refine i_ixT (by assumption) rfl ?_ | with_reducible refine i_ixL (by assumption) rfl ?_ | with_reducible refine i_gtup (by assumption) rfl ?_
  | with_reducible refine i_gsub ?_
  | with_reducible refine Or.inl (Exists.intro _ (And.intro (rfl : [V.int _] = [V.int _]) ?_)) | with_reducible refine Exists.intro _ (And.intro (rfl : [V.int _] = [V.int _]) ?_)
  | with_reducible refine Or.inr (Exists.intro _ (And.intro (rfl : [V.bl _] = [V.bl _]) ?_))
  | with_reducible refine Exists.intro _ (Exists.intro _ (And.intro (rfl : [V.int _, V.int _] = [V.int _, V.int _]) ?_))
  | with_reducible refine Exists.intro _ (Exists.intro _ (And.intro (rfl : [V.ref _] = [V.ref _]) (And.intro (Or.inl (SqL.of (by assumption))) ?_)))
  | with_reducible refine i_rI (show (0 : Int) < _ by assumption) ?_ | with_reducible refine i_rI (show (0 : Int) < _ by decide) ?_
  | with_reducible refine i_rI (pow_ok (Nat.le_of_ble_eq_true rfl) (Nat.le_of_ble_eq_true rfl)) ?_
  | with_reducible refine i_rI (cmulL rfl) ?_))
def namesB (xs : List V) (js : List Bool) : Bool := !xs.isEmpty && (js.all id && decide xs.Nodup)
theorem names_of {K : PySem.W.Frag} {H : Hp} : ∀ {xs : List V} {js : List Bool}, Paired (NmV K H) xs js → js.all id = true → ∃ cs : List Str, xs = cs.map V.str ∧ ∀ c, c ∈ cs → nameB c = true ∧ c.length ≤ 100
  | _, _, .nil, _ => ⟨[], rfl, fun c hc => absurd hc List.not_mem_nil⟩
  | _, j :: js, .cons r t, h => by
    rw [List.all_cons, Bool.and_eq_true] at h
    obtain ⟨cs, e, ok⟩ := names_of t h.2
    have hj : j = true := h.1
    rcases r with ⟨z, rfl, hz, ez⟩ | ⟨_, ez⟩
    · refine ⟨z :: cs, by rw [e]; rfl, fun c hc => ?_⟩
      rcases List.mem_cons.mp hc with rfl | hc
      · exact ⟨by rw [← ez]; exact hj, hz⟩
      · exact ok c hc
    · rw [hj] at ez
      cases ez
theorem nodup_strs {cs : List Str} : (cs.map V.str).Nodup ↔ cs.Nodup := by
  unfold List.Nodup
  rw [List.pairwise_map]
  exact ⟨fun h => h.imp fun z e => z (by rw [e]), fun h => h.imp fun z e => z (V.str.inj e)⟩
section
variable {P : Program} {w : World} {K : PySem.W.Frag} {mg : Str → Option Value} {base : Heap}
abbrev s_are_names : Stmt := top 25
theorem sc_are_names : FnScope ["things", "thing"] ["things"] (defScope s_are_names) := ⟨rfl, rfl, rfl, by decide +kernel, rfl, by decide +kernel, by decide +kernel⟩
def sp_are_names (K : PySem.W.Frag) : Sp := fun vs H Q _ => ∃ t xs js, vs = [.ref t] ∧ SqT K H t xs ∧ xs.length ≤ 100 ∧ Paired (NmV K H) xs js ∧ ∀ H', Same H H' → Q (.bl (namesB xs js)) H'
theorem ok_are_names {f fN : Addr} {fd fdN : FuncData} (F : Fun K "are_names" "are_names" s_are_names f fd) (F_is_name : Fun K "is_name" "is_name" s_is_name fN fdN) (B_is_name : Binds K fdN ["thing"] []) (g_is_name : mg "is_name" = some (.ref fN))
    (G_is_name : FnOk P w K mg base CX0 1 fN fdN ["thing"] (sp_is_name K)) (z_len : mg "len" = none) (z_all : mg "all" = none) (z_set : mg "set" = none) : FnOk P w K mg base CX0 2 f fd ["things"] (sp_are_names K) := by
  refine F.ok sc_are_names (fun vs H Q E h => ?_) (fun cdv A outer s H vs Q E hr h => ?_)
  · obtain ⟨t, xs, js, rfl, _⟩ := h
    rfl
  · obtain ⟨t, xs, js, rfl, ht, hz, nm, q⟩ := h
    refine ⟨_, (pss_one (ps_ret (pe_and (pe_cmpR op_gt (pe_callB call_len_seq (by rfl) z_len PySem.boot_len (pa_cons (pv 0) pa_nil)) pe_int (nomark _)) (pe_and (pe_callB (cr_all rfl) (by rfl) z_all (by decide +kernel) (pa_cons (pe_lc (own := [("thing", 1)]) (g := gName 1) (tt := tYes) rfl sc_are_names.nd (pi_tup (pv 0)) (blkOk_by (own := [("thing", 1)]) (N := ["things", "thing"]) (sc := defScope s_are_names) (by decide +kernel)) (fun _ _ _ _ _ => pg_name (i := 1) sc_are_names.nd rfl (Or.inl rfl)) (fun _ _ _ _ _ => pts_nil) (fun _ _ _ _ _ => (pe_call G_is_name (hr.mono (by decide)) rfl g_is_name F_is_name.kp B_is_name .nil pass0 (pa_cons (pv 1) pa_nil)))) pa_nil)) (pe_one (pe_cmpR op_eq (pe_callB cr_txLen (by rfl) z_len PySem.boot_len (pa_cons (pe_callTy (cr_txSet rfl) (by rfl) z_set (by decide +kernel) (pa_cons (pv 0) pa_nil)) pa_nil)) (pe_callB call_len_seq (by rfl) z_len PySem.boot_len (pa_cons (pv 0) pa_nil)) (nomark _))))))), ?_⟩
    have jl : xs.length = js.length := Paired.length nm
    walk_at "rd"
    refine ⟨t, _, rfl, .inr ht, ?_⟩
    walk_at "rd"
    unfold namesB at q
    cases hx : xs with
    | nil =>
      subst hx
      exact iteF (q H (Same.refl H))
    | cons x0 xr =>
      rw [← hx]
      have hne : xs.isEmpty = false := by rw [hx]; rfl
      have hpos : 0 < xs.length := by rw [hx]; simp
      rw [hne] at q
      rw [decide_eq_true (show (0 : Int) < ((xs.length : Nat) : Int) by omega)]
      refine iteT ?_
      walk_at "rd"
      unfold tLc
      walk_at "rd"
      refine ⟨t, rfl, ⟨_, ht⟩, fun D hD => ?_⟩
      obtain ⟨H1, e1, s1, hd⟩ := new_heap (o := .lst []) hD
      refine lc_tup (K := K) (a := t) (xs := xs) (fun i H' => Same H H' ∧ H' D = some (.lst ((js.take i).map V.bl))) ⟨by rw [e1]; exact s1, by rw [e1]; exact hd⟩ ?_ ?_ ?_
      · rintro i H' _ ⟨s2, _⟩
        exact SqT.ext ht s2
      · rintro i x H2 hx ⟨s2, h2⟩
        obtain ⟨j, ej, nj⟩ := pair_at nm hx
        have hi : i < xs.length := (List.getElem?_eq_some_iff.mp hx).1
        walk_at "rd"
        refine ⟨rfl, i_yes (iteT ?_)⟩
        walk_at "rd"
        refine ⟨x, j, rfl, nj.up s2, fun H3 s3 => ?_⟩
        refine ⟨_, s3 _ _ h2, size_lt (by rw [List.length_map, List.length_take]; omega), Same.mut (fun b o z => s3 _ _ (s2 _ _ z)) hD, ?_⟩
        rw [upd_same, take_snoc ej, List.map_append]
        rfl
      · rintro H2 ⟨s2, h2⟩
        rw [jl, List.take_length] at h2
        walk_at "rd"
        refine ⟨D, js, rfl, SqL.of h2, js.all id, rfl, ?_⟩
        cases ha : js.all id with
        | false =>
          rw [ha] at q
          exact iteF (q H2 s2)
        | true =>
          rw [ha] at q
          obtain ⟨cs, rfl, ok⟩ := names_of nm ha
          refine iteT ?_
          walk_at "rd"
          rw [List.length_map] at hz
          refine ⟨t, cs, rfl, SqT.ext ht s2, by omega, fun p hp => ?_⟩
          obtain ⟨H3, e3, s3, h3⟩ := new_heap (o := TxO P w p (onceTx [] cs)) hp
          show tNil _ (upd H2 p (TxO P w p (onceTx [] cs))) _
          rw [e3]
          walk_at "rd"
          refine ⟨p, onceTx [] cs, rfl, h3, by have := onceTx_le cs; omega, ?_⟩
          walk_at "rd"
          refine ⟨t, _, rfl, .inr (SqT.ext (SqT.ext ht s2) s3), ?_⟩
          rw [List.length_map]
          refine i_rEq rfl ?_
          have e : decide (V.int ((onceTx [] cs).length : Int) = V.int (cs.length : Int)) = decide (cs.map V.str).Nodup := by
            rw [decide_eq_decide, nodup_strs, ← onceTx_iff]
            exact ⟨fun z => by have := V.int.inj z; omega, fun z => by rw [z]⟩
          rw [e]
          exact q H3 fun b o z => s3 _ _ (s2 _ _ z)
abbrev s_sequence_of : Stmt := top 27
theorem sc_sequence_of : FnScope ["things"] ["things"] (defScope s_sequence_of) := ⟨rfl, rfl, rfl, by decide +kernel, rfl, by decide +kernel, by decide +kernel⟩
def sp_sequence_of (K : PySem.W.Frag) : Sp := fun vs H Q _ => ∃ l xs, vs = [.ref l] ∧ (H l = some (.lst xs) ∨ H l = some (.tup xs)) ∧ ∀ p H', Same H H' → H' p = some (.tup xs) → Q (.ref p) H'
theorem ok_sequence_of {f : Addr} {fd : FuncData} (F : Fun K "sequence_of" "sequence_of" s_sequence_of f fd) (z_isinstance : mg "isinstance" = none) (z_list : mg "list" = none) (z_tuple : mg "tuple" = none) : FnOk P w K mg base CX0 1 f fd ["things"] (sp_sequence_of K) := by
  refine F.ok sc_sequence_of (fun vs H Q E h => ?_) (fun cdv A outer s H vs Q E hr h => ?_)
  · obtain ⟨l, xs, rfl, _⟩ := h
    rfl
  · obtain ⟨l, xs, rfl, hl, q⟩ := h
    refine ⟨_, (pss_one (ps_ret (pe_ifExp (pt_val (pe_callB call_isiT (by rfl) z_isinstance (by decide +kernel) (pa_cons (pv 0) (pa_cons (pe_tup (pa_cons (pe_bltn (v := .ty "list") (u := .type "list") (by rfl) z_list (by decide +kernel) rfl) (pa_cons (pe_bltn (v := .ty "tuple") (u := .type "tuple") (by rfl) z_tuple (by decide +kernel) rfl) pa_nil))) pa_nil)))) (pe_callTy call_tuple_of (by rfl) z_tuple (by decide +kernel) (pa_cons (pv 0) pa_nil)) (pe_tup pa_nil)))), ?_⟩
    walk_at "rd"
    refine ⟨size_of (Nat.le_of_ble_eq_true rfl), fun tp htp => ?_⟩
    obtain ⟨H1, e1, s1, h1⟩ := new_heap (o := .tup [.ty "list", .ty "tuple"]) htp
    rw [e1]
    walk_at "rd"
    rcases hl with hl | hl
    · refine ⟨.ref l, tp, _, _, _, true, rfl, h1, .cons (.ty "list") (.cons (.ty "tuple") .nil), .base (.lst (s1 _ _ hl)), rfl, true, rfl, iteT ?_⟩
      walk_at "rd"
      refine ⟨l, xs, rfl, .inl ⟨SqL.of (s1 _ _ hl), fun p hp => ?_⟩⟩
      obtain ⟨H2, e2, s2, h2⟩ := new_heap (o := .tup xs) hp
      rw [e2]
      exact q p H2 (fun b o z => s2 _ _ (s1 _ _ z)) h2
    · refine ⟨.ref l, tp, _, _, _, true, rfl, h1, .cons (.ty "list") (.cons (.ty "tuple") .nil), .base (.tup (s1 _ _ hl)), rfl, true, rfl, iteT ?_⟩
      walk_at "rd"
      exact ⟨l, xs, rfl, .inr ⟨SqT.of (s1 _ _ hl), q l H1 s1 (s1 _ _ hl)⟩⟩
end
end Spk

set_option Elab.async false
set_option linter.all false
set_option maxRecDepth 100000
set_option maxHeartbeats 1000000
namespace Spk
open PySem L2
local macro_rules | `(tactic| walk_at "rd") => `(tactic| repeat (first
  | with_reducible refine i_seq ?_ | with_reducible refine i_asg ?_ | with_reducible refine i_ret ?_ | with_reducible refine i_ifS ?_ | with_reducible refine i_if ?_
  | with_reducible refine i_for ?_ | with_reducible refine i_iL ?_ | with_reducible refine i_iT ?_ | with_reducible refine i_ckw ?_ | with_reducible refine i_cm ?_ | with_reducible refine And.intro (rfl : V.ref _ = V.ref _) ?_ | with_reducible refine i_rng1 ?_ | with_reducible refine i_bm ?_ | with_reducible refine i_bm0 ?_
  | with_reducible refine i_drop ?_ | with_reducible refine i_next ?_
  | with_reducible refine i_var rfl ?_ | with_reducible refine i_c ?_ | with_reducible refine i_op ?_ | with_reducible refine i_un ?_ | with_reducible refine i_name ?_
  | with_reducible refine i_rI0 ?_ | with_reducible refine i_rU ?_ | with_reducible refine i_rEq rfl ?_ | with_reducible refine i_rNe rfl ?_
  | with_reducible refine i_test ?_ | with_reducible refine i_tB ?_ | with_reducible refine i_and ?_ | with_reducible refine i_or ?_ | with_reducible refine i_not ?_
  | with_reducible refine i_andV ?_ | with_reducible refine i_orV ?_ | with_reducible refine i_notV ?_
  | with_reducible refine i_cons ?_ | with_reducible refine i_nil ?_ | with_reducible refine i_cb ?_ | with_reducible refine i_call ?_ | with_reducible refine i_bl ?_
  | with_reducible refine i_tup ?_ | with_reducible refine i_lst ?_ | with_reducible refine i_par ?_ | with_reducible refine i_gcons ?_ | with_reducible refine i_gnil ?_
  | with_reducible refine And.intro (rfl : V.non = V.non) ?_ | with_reducible refine i_ixT (by assumption) rfl ?_ | with_reducible refine i_ixL (by assumption) rfl ?_ | with_reducible refine i_gtup (by assumption) rfl ?_
  | with_reducible refine i_gsub ?_
  | with_reducible refine Or.inl (Exists.intro _ (And.intro (rfl : [V.int _] = [V.int _]) ?_)) | with_reducible refine Exists.intro _ (And.intro (rfl : [V.int _] = [V.int _]) ?_)
  | with_reducible refine Or.inr (Exists.intro _ (And.intro (rfl : [V.bl _] = [V.bl _]) ?_))
  | with_reducible refine Exists.intro _ (Exists.intro _ (And.intro (rfl : [V.int _, V.int _] = [V.int _, V.int _]) ?_))
  | with_reducible refine Exists.intro _ (Exists.intro _ (And.intro (rfl : [V.ref _] = [V.ref _]) (And.intro (Or.inl (SqL.of (by assumption))) ?_)))
  | with_reducible refine i_rI (show (0 : Int) < _ by assumption) ?_ | with_reducible refine i_rI (show (0 : Int) < _ by decide) ?_
  | with_reducible refine i_rI (pow_ok (Nat.le_of_ble_eq_true rfl) (Nat.le_of_ble_eq_true rfl)) ?_
  | with_reducible refine i_rI (cmulL rfl) ?_))
/-! ### names among names -/
theorem flat_strs (cs : List Str) : (cs.map V.str).all flatV = true := by
  rw [List.all_map]
  exact List.all_eq_true.mpr fun _ _ => rfl
theorem in_strs (c : Str) (cs : List Str) : inV (.str c) (cs.map V.str) = decide (c ∈ cs) := by
  unfold inV
  rw [List.any_map, Bool.eq_iff_iff, List.any_eq_true, decide_eq_true_eq]
  constructor
  · rintro ⟨x, hx, e⟩
    have : x = c := eq_of_beq e
    rw [← this]
    exact hx
  · intro h
    exact ⟨c, h, (beq_self_eq_true c : (c == c) = true)⟩
theorem in_at {K : PySem.W.Frag} {H : Hp} {c : Str} {u : Addr} {cs : List Str} {Q : VK} (h : SqL K H u (cs.map V.str) ∨ SqT K H u (cs.map V.str)) (q : Q (.bl (decide (c ∈ cs))) H) : rIn K false (.str c) (.ref u) H Q :=
  ⟨u, _, rfl, h, rfl, flat_strs cs, by rw [in_strs]; exact q⟩
theorem notIn_at {K : PySem.W.Frag} {H : Hp} {c : Str} {u : Addr} {cs : List Str} {Q : VK} (h : SqL K H u (cs.map V.str) ∨ SqT K H u (cs.map V.str)) (q : Q (.bl (!decide (c ∈ cs))) H) : rIn K true (.str c) (.ref u) H Q :=
  ⟨u, _, rfl, h, rfl, flat_strs cs, by rw [in_strs]; exact q⟩
theorem str_at {cs : List Str} {i : Nat} {x : V} (hx : (cs.map V.str)[i]? = some x) : ∃ c, cs[i]? = some c ∧ x = .str c := by
  rw [List.getElem?_map] at hx
  cases h : cs[i]? with
  | none => rw [h] at hx; cases hx
  | some c =>
    rw [h] at hx
    exact ⟨c, rfl, (Option.some.inj hx).symm⟩
/-- what stands in the written part or in the heap as a tuple -/
def TuS (K : PySem.W.Frag) (H : Hp) (a : Addr) (xs : List V) : Prop := SqT K H a xs ∧ TyX K H (.ref a) (.type "tuple")
theorem TuS.of {K : PySem.W.Frag} {H : Hp} {a : Addr} {xs : List V} (h : H a = some (.tup xs)) : TuS K H a xs := ⟨SqT.of h, .base (.tup h)⟩
theorem TuS.up {K : PySem.W.Frag} {H H' : Hp} {a : Addr} {xs : List V} (e : Same H H') (h : TuS K H a xs) : TuS K H' a xs := ⟨SqT.ext h.1 e, ty_up e h.2⟩
section
variable {P : Program} {w : World} {K : PySem.W.Frag} {mg : Str → Option Value} {base : Heap}
abbrev s_are_chosen : Stmt := top 31
theorem sc_are_chosen : FnScope ["names", "columns", "name"] ["names", "columns"] (defScope s_are_chosen) := ⟨rfl, rfl, rfl, by decide +kernel, rfl, by decide +kernel, by decide +kernel⟩
def chosenB (ks cs : List Str) : Bool := (ks.map fun c => decide (c ∈ cs)).all id && decide ks.Nodup
def sp_are_chosen (K : PySem.W.Frag) : Sp := fun vs H Q _ => ∃ t u, ∃ ks cs : List Str, vs = [.ref t, .ref u] ∧ TuS K H t (ks.map V.str) ∧ (SqL K H u (cs.map V.str) ∨ SqT K H u (cs.map V.str)) ∧ ks.length ≤ 100 ∧ ∀ H', Same H H' → Q (.bl (chosenB ks cs)) H'
theorem ok_are_chosen {f : Addr} {fd : FuncData} (F : Fun K "are_chosen" "are_chosen" s_are_chosen f fd) (z_isinstance : mg "isinstance" = none) (z_tuple : mg "tuple" = none) (z_str : mg "str" = none) (z_len : mg "len" = none) (z_all : mg "all" = none) (z_set : mg "set" = none) :
    FnOk P w K mg base CX0 1 f fd ["names", "columns"] (sp_are_chosen K) := by
  refine F.ok sc_are_chosen (fun vs H Q E h => ?_) (fun cdv A outer s H vs Q E hr h => ?_)
  · obtain ⟨t, u, ks, cs, rfl, _⟩ := h
    rfl
  · obtain ⟨t, u, ks, cs, rfl, ⟨ht, ty⟩, hu, hz, q⟩ := h
    refine ⟨_, (pss_cons (ps_if (pt_not (PW.pt (pw_and (pt_val (pe_callB call_isi (by rfl) z_isinstance (by decide +kernel) (pa_cons (pv 0) (pa_cons (pe_bltn (v := .ty "tuple") (u := .type "tuple") (by rfl) z_tuple (by decide +kernel) rfl) pa_nil)))) (pw_and1 (pt_truth (pe_callB (cr_all rfl) (by rfl) z_all (by decide +kernel) (pa_cons (pe_lc (own := [("name", 2)]) (g := gName 2) (tt := tYes) rfl sc_are_chosen.nd (pi_tup (pv 0)) (blkOk_by (own := [("name", 2)]) (N := ["names", "columns", "name"]) (sc := defScope s_are_chosen) (by decide +kernel)) (fun _ _ _ _ _ => pg_name (i := 2) sc_are_chosen.nd rfl (Or.inl rfl)) (fun _ _ _ _ _ => pts_nil) (fun _ _ _ _ _ => (pe_and (pe_callB (call_isiK (K := K) rfl) (by rfl) z_isinstance (by decide +kernel) (pa_cons (pv 2) (pa_cons (pe_bltn (v := .ty "str") (u := .type "str") (by rfl) z_str (by decide +kernel) rfl) pa_nil))) (pe_one (pe_cmpR (op_inK (K := K) rfl) (pv 2) (pv 1) (by rfl)))))) pa_nil)) (by intro _; rfl))))))
 (pss_one (ps_ret pe_bl))
 pss_nil)
 (pss_one (ps_ret (pe_cmpR op_eq (pe_callB cr_txLen (by rfl) z_len PySem.boot_len (pa_cons (pe_callTy (cr_txSet rfl) (by rfl) z_set (by decide +kernel) (pa_cons (pv 0) pa_nil)) pa_nil)) (pe_callB call_len_seq (by rfl) z_len PySem.boot_len (pa_cons (pv 0) pa_nil)) (nomark _))))), ?_⟩
    walk_at "rd"
    refine ⟨_, _, _, _, true, rfl, .ty "tuple", ty, kit_ty (by decide +kernel), true, rfl, iteT ?_⟩
    walk_at "rd"
    unfold tLc
    walk_at "rd"
    refine ⟨t, rfl, ⟨_, ht⟩, fun D hD => ?_⟩
    obtain ⟨H1, e1, s1, hd⟩ := new_heap (o := .lst []) hD
    refine lc_tup (K := K) (a := t) (xs := ks.map V.str) (fun i H' => Same H H' ∧ H' D = some (.lst ((((ks.map fun c => decide (c ∈ cs))).take i).map V.bl))) ⟨by rw [e1]; exact s1, by rw [e1]; exact hd⟩ ?_ ?_ ?_
    · rintro i H' _ ⟨s2, _⟩
      exact SqT.ext ht s2
    · rintro i x H2 hx ⟨s2, h2⟩
      obtain ⟨c, hc, rfl⟩ := str_at hx
      have hi : i < ks.length := (List.getElem?_eq_some_iff.mp hc).1
      have hc2 : (ks.map fun c => decide (c ∈ cs))[i]? = some (decide (c ∈ cs)) := by rw [List.getElem?_map, hc]; rfl
      walk_at "rd"
      refine ⟨rfl, i_yes (iteT ?_)⟩
      walk_at "rd"
      refine ⟨_, _, _, _, true, rfl, .ty "str", .base (.str c), kit_ty (by decide +kernel), true, rfl, iteT ?_⟩
      walk_at "rd"
      refine in_at (hu.imp (fun z => SqL.ext z s2) fun z => SqT.ext z s2) ?_
      refine ⟨_, h2, size_lt (by rw [List.length_map, List.length_take, List.length_map]; omega), Same.mut s2 hD, ?_⟩
      rw [upd_same, take_snoc hc2, List.map_append]
      rfl
    · rintro H2 ⟨s2, h2⟩
      have e : (ks.map fun c => decide (c ∈ cs)).take (ks.map V.str).length = ks.map fun c => decide (c ∈ cs) := List.take_of_length_le (by simp)
      rw [e] at h2
      walk_at "rd"
      refine ⟨D, ks.map fun c => decide (c ∈ cs), rfl, SqL.of h2, _, rfl, ?_⟩
      unfold chosenB at q
      cases ha : (ks.map fun c => decide (c ∈ cs)).all id with
      | false =>
        rw [ha] at q
        exact iteT (q H2 s2)
      | true =>
        rw [ha] at q
        refine iteF ?_
        walk_at "rd"
        refine ⟨t, ks, rfl, SqT.ext ht s2, by omega, fun p hp => ?_⟩
        obtain ⟨H3, e3, s3, h3⟩ := new_heap (o := TxO P w p (onceTx [] ks)) hp
        show tNil _ (upd H2 p (TxO P w p (onceTx [] ks))) _
        rw [e3]
        walk_at "rd"
        refine ⟨p, onceTx [] ks, rfl, h3, by have := onceTx_le ks; omega, ?_⟩
        walk_at "rd"
        refine ⟨t, _, rfl, .inr (SqT.ext (SqT.ext ht s2) s3), ?_⟩
        rw [List.length_map]
        refine i_rEq rfl ?_
        have e : decide (V.int ((onceTx [] ks).length : Int) = V.int (ks.length : Int)) = decide ks.Nodup := by
          rw [decide_eq_decide, ← onceTx_iff]
          exact ⟨fun z => by have := V.int.inj z; omega, fun z => by rw [z]⟩
        rw [e]
        exact q H3 fun b o z => s3 _ _ (s2 _ _ z)
abbrev s_in_order_of : Stmt := top 32
theorem sc_in_order_of : FnScope ["columns", "names", "column"] ["columns", "names"] (defScope s_in_order_of) := ⟨rfl, rfl, rfl, by decide +kernel, rfl, by decide +kernel, by decide +kernel⟩
abbrev among (cs ks : List Str) : List Str := cs.filter fun c => decide (c ∈ ks)
def sp_in_order_of (K : PySem.W.Frag) : Sp := fun vs H Q _ => ∃ t u, ∃ cs ks : List Str, vs = [.ref t, .ref u] ∧ SqT K H t (cs.map V.str) ∧ SqT K H u (ks.map V.str) ∧ cs.length ≤ 100 ∧ ∀ p H', Same H H' → H' p = some (.tup ((among cs ks).map V.str)) → Q (.ref p) H'
theorem among_snoc {cs ks : List Str} {i : Nat} {c : Str} (h : cs[i]? = some c) : among (cs.take (i + 1)) ks = if c ∈ ks then among (cs.take i) ks ++ [c] else among (cs.take i) ks := by
  unfold among
  rw [take_snoc h, List.filter_append]
  by_cases e : c ∈ ks
  · rw [if_pos e]
    simp [e]
  · rw [if_neg e]
    simp [e]
theorem ok_in_order_of {f : Addr} {fd : FuncData} (F : Fun K "in_order_of" "in_order_of" s_in_order_of f fd) (z_tuple : mg "tuple" = none) : FnOk P w K mg base CX0 1 f fd ["columns", "names"] (sp_in_order_of K) := by
  refine F.ok sc_in_order_of (fun vs H Q E h => ?_) (fun cdv A outer s H vs Q E hr h => ?_)
  · obtain ⟨t, u, ks, cs, rfl, _⟩ := h
    rfl
  · obtain ⟨t, u, cs, ks, rfl, ht, hu, hz, q⟩ := h
    refine ⟨_, (pss_one (ps_ret (pe_callTy call_tuple_of (by rfl) z_tuple (by decide +kernel) (pa_cons (pe_lc (own := [("column", 2)]) (g := gName 2) rfl sc_in_order_of.nd (pi_tup (pv 0)) (blkOk_by (own := [("column", 2)]) (N := ["columns", "names", "column"]) (sc := defScope s_in_order_of) (by decide +kernel)) (fun _ _ _ _ _ => pg_name (i := 2) sc_in_order_of.nd rfl (Or.inl rfl)) (fun _ _ _ _ _ => pts_one (pt_cmpR (op_inK (K := K) rfl) (pv 2) (pv 1) (by rfl))) (fun _ _ _ _ _ => (pv 2))) pa_nil)))), ?_⟩
    walk_at "rd"
    unfold tLc
    walk_at "rd"
    refine ⟨t, rfl, ⟨_, ht⟩, fun D hD => ?_⟩
    obtain ⟨H1, e1, s1, hd⟩ := new_heap (o := .lst []) hD
    refine lc_tup (K := K) (a := t) (xs := cs.map V.str) (fun i H' => Same H H' ∧ H' D = some (.lst ((among (cs.take i) ks).map V.str))) ⟨by rw [e1]; exact s1, by rw [e1]; exact hd⟩ ?_ ?_ ?_
    · rintro i H' _ ⟨s2, _⟩
      exact SqT.ext ht s2
    · rintro i x H2 hx ⟨s2, h2⟩
      obtain ⟨c, hc, rfl⟩ := str_at hx
      walk_at "rd"
      refine ⟨rfl, ?_⟩
      walk_at "rd"
      refine in_at (.inr (SqT.ext hu s2)) ⟨_, rfl, ?_⟩
      refine ite_d (fun hm => ?_) (fun hm => ?_)
      · walk_at "rd"
        refine ⟨_, h2, size_lt ?_, Same.mut s2 hD, ?_⟩
        · rw [List.length_map]
          refine Nat.le_trans (List.length_filter_le ..) ?_
          rw [List.length_take]
          omega
        · rw [among_snoc hc, if_pos hm, List.map_append]
          exact upd_same
      · refine ⟨s2, ?_⟩
        rw [among_snoc hc, if_neg hm]
        exact h2
    · rintro H2 ⟨s2, h2⟩
      rw [List.length_map, List.take_length] at h2
      walk_at "rd"
      refine ⟨D, _, rfl, .inl ⟨SqL.of h2, fun p hp => ?_⟩⟩
      obtain ⟨H3, e3, s3, h3⟩ := new_heap (o := .tup ((among cs ks).map V.str)) hp
      rw [e3]
      exact q p H3 (fun b o z => s3 _ _ (s2 _ _ z)) h3
end
end Spk

set_option Elab.async false
set_option linter.all false
set_option maxRecDepth 100000
set_option maxHeartbeats 2000000
namespace Spk
open PySem L2
local macro_rules | `(tactic| walk_at "rd") => `(tactic| repeat (first
  | with_reducible refine i_seq ?_ | with_reducible refine i_asg ?_ | with_reducible refine i_ret ?_ | with_reducible refine i_ifS ?_ | with_reducible refine i_if ?_
  | with_reducible refine i_for ?_ | with_reducible refine i_iL ?_ | with_reducible refine i_iT ?_ | with_reducible refine i_ckw ?_ | with_reducible refine i_cm ?_ | with_reducible refine And.intro (rfl : V.ref _ = V.ref _) ?_ | with_reducible refine i_rng1 ?_ | with_reducible refine i_bm ?_ | with_reducible refine i_bm0 ?_
  | with_reducible refine i_drop ?_ | with_reducible refine i_next ?_
  | with_reducible refine i_var rfl ?_ | with_reducible refine i_c ?_ | with_reducible refine i_op ?_ | with_reducible refine i_un ?_ | with_reducible refine i_name ?_
  | with_reducible refine i_rI0 ?_ | with_reducible refine i_rU ?_ | with_reducible refine i_rEq rfl ?_ | with_reducible refine i_rNe rfl ?_
  | with_reducible refine i_test ?_ | with_reducible refine i_tB ?_ | with_reducible refine i_and ?_ | with_reducible refine i_or ?_ | with_reducible refine i_not ?_
  | with_reducible refine i_andV ?_ | with_reducible refine i_orV ?_ | with_reducible refine i_notV ?_
  | with_reducible refine i_cons ?_ | with_reducible refine i_nil ?_ | with_reducible refine i_cb ?_ | with_reducible refine i_call ?_ | with_reducible refine i_bl ?_
  | with_reducible refine i_tup ?_ | with_reducible refine i_lst ?_ | with_reducible refine i_par ?_ | with_reducible refine i_gcons ?_ | with_reducible refine i_gnil ?_
  | with_reducible refine And.intro (rfl : V.non = V.non) ?_ | with_reducible refine i_ixT (by assumption) rfl ?_ | with_reducible refine i_ixL (by assumption) rfl ?_ | with_reducible refine i_gtup (by assumption) rfl ?_
  | with_reducible refine i_gsub ?_
  | with_reducible refine Or.inl (Exists.intro _ (And.intro (rfl : [V.int _] = [V.int _]) ?_)) | with_reducible refine Exists.intro _ (And.intro (rfl : [V.int _] = [V.int _]) ?_)
  | with_reducible refine Or.inr (Exists.intro _ (And.intro (rfl : [V.bl _] = [V.bl _]) ?_))
  | with_reducible refine Exists.intro _ (Exists.intro _ (And.intro (rfl : [V.int _, V.int _] = [V.int _, V.int _]) ?_))
  | with_reducible refine Exists.intro _ (Exists.intro _ (And.intro (rfl : [V.ref _] = [V.ref _]) (And.intro (Or.inl (SqL.of (by assumption))) ?_)))
  | with_reducible refine i_rI (show (0 : Int) < _ by assumption) ?_ | with_reducible refine i_rI (show (0 : Int) < _ by decide) ?_
  | with_reducible refine i_rI (pow_ok (Nat.le_of_ble_eq_true rfl) (Nat.le_of_ble_eq_true rfl)) ?_
  | with_reducible refine i_rI (cmulL rfl) ?_))
/-! ### the error InvalidTable -/
structure XIt (K : PySem.W.Frag) (mg : Str → Option Value) (CI fX : Addr) : Prop where
  o : OexC K CI
  iC : PySem.W.findIn K (.ref CI) "__init__" = some (some (.ref fX))
  tI : PySem.W.typeIn K (.ref fX) = some (.type "function")
  g : mg "InvalidTable" = some (.ref CI)
  noR : PySem.W.findIn K (.ref CI) "reason" = some none
theorem i_ost {K : PySem.W.Frag} {f : Str} {to te : TE} {D : Ends} {σ : L2.St} {H : Hp} (h : te σ H fun y H1 => to σ H1 fun x H2 => ∃ a C, x = V.ref a ∧ OexC K C ∧ PySem.W.findIn K (Value.ref C) f = some none ∧
              ((H2 a = some (exo a C none) ∧ ∀ (dx : Addr), H2 dx = none → dx ≠ a → D.nx σ (upd (upd H2 dx (exd dx [(f, y)])) a (exo a C (some dx)))) ∨
                ∃ dx fs, H2 a = some (exo a C (some dx)) ∧ H2 dx = some (exd dx fs) ∧ fs.length ≤ 900 ∧ D.nx σ (upd H2 dx (exd dx ((f, y) :: fs))))) : tOst K f to te D σ H := h
section
variable {P : Program} {w : World} {K : PySem.W.Frag} {mg : Str → Option Value} {base : Heap} {CI fX : Addr}
abbrev s_InvalidTable__init : Stmt := inClass (top 3) 0
theorem sc_InvalidTable__init : FnScope ["self", "reason"] ["self", "reason"] (defScope s_InvalidTable__init) := ⟨rfl, rfl, rfl, by decide +kernel, rfl, by decide +kernel, by decide +kernel⟩
def sp_iinit (CI : Addr) : Sp := fun vs H Q _ => ∃ a y, vs = [.ref a, y] ∧ H a = some (exo a CI none) ∧ ∀ dx, H dx = none → dx ≠ a → Q .non (upd (upd H dx (exd dx [("reason", y)])) a (exo a CI (some dx)))
theorem ok_iinit {fd : FuncData} (F : Fun K "__init__" "InvalidTable.__init__" s_InvalidTable__init fX fd) (XI : XIt K mg CI fX) : FnOk P w K mg base CX0 1 fX fd ["self", "reason"] (sp_iinit CI) := by
  refine F.ok sc_InvalidTable__init (fun vs H Q E h => ?_) (fun cdv A outer s H vs Q E hr h => ?_)
  · obtain ⟨a, y, rfl, _⟩ := h
    rfl
  · obtain ⟨a, y, rfl, ha, q⟩ := h
    refine ⟨_, (pss_one (ps_ost (pv 0) (pv 1))), ?_⟩
    refine i_ost ?_
    walk_at "rd"
    exact ⟨a, CI, rfl, XI.o, XI.noR, .inl ⟨ha, fun dx hdx hne => q dx hdx hne⟩⟩
/-- «an InvalidTable with this reason» -/
abbrev Told (CI : Addr) (H : Hp) (E : XK) (r : Str) : Prop := ∀ d H', Same H H' → H' d = some (.xd [("reason", .str r)]) → E (.ref CI) (some d) H'
theorem err_at {H : Hp} {r : Str} {E : XK} (q : Told CI H E r) : tMkO CI (sp_iinit CI) [] (tCons (tC (.str r)) tNil) [] H E := by
  refine ⟨by show 1 ≤ 1000; decide, fun a ha => ⟨a, .str r, rfl, upd_same, fun dx hdx hne => ⟨rfl, dx, [("reason", .str r)], upd_same, by rw [upd_ne hne]; exact upd_same, ?_, q dx _ (fun b o e => ?_) upd_same⟩⟩⟩
  · rw [upd_ne hne] at hdx
    exact hdx
  · have n1 : b ≠ a := ne_of_none e ha
    have n2 : b ≠ dx := fun z => by
      rw [z] at e
      rw [upd_ne hne, e] at hdx
      cases hdx
    rw [upd_ne n2]
    unfold del
    rw [if_neg n1, upd_ne n1, upd_ne n2, upd_ne n1]
    exact e
theorem i_raise {C : Addr} {sp : Sp} {ta : TA} {W : WX} {D : Ends} {σ : L2.St} {H : Hp} (h : tMkO C sp [] ta σ H fun cls d H' => W cls d σ H') : (fun (_ : Ends) σ H => tMkO C sp [] ta σ H fun cls d H' => W cls d σ H') D σ H := h
end
/-! ### the class Table -/
structure ClsT (K : PySem.W.Frag) (mg : Str → Option Value) (C fI : Addr) (mc : Value) (p g : Addr) : Prop where
  cl : Cls K C
  nC : NoAttr K C "columns"
  nK : NoAttr K C "key"
  nF : NoAttr K C "fixed"
  nU : NoAttr K C "unique"
  nR : NoAttr K C "reuse"
  M : Mk K C fI
  g_C : mg "Table" = some (.ref C)
  rd : ClX.CRead K C mc
  of : ClX.CMet K C mc "of" p g
  most : ∃ u, ClX.CVal K C mc "MOST_COLUMNS" (.int 4) u
abbrev flds (tc tk tf tu : Addr) (r : Bool) : List (Str × V) := [("columns", .ref tc), ("key", .ref tk), ("fixed", .ref tf), ("unique", .ref tu), ("reuse", .bl r)]
/-- what a table tells: columns, key, fixed, unique, reuse -/
structure Tb where
  cs : List Str
  ks : List Str
  fs : List Str
  us : List Str
  r : Bool
/-- a table -/
def Tab (C : Addr) (H : Hp) (x : Addr) (t : Tb) : Prop := ∃ dx tc tk tf tu, H x = some (.ins C dx (flds tc tk tf tu t.r)) ∧ TupF H tc (t.cs.map V.str) ∧ H tk = some (.tup (t.ks.map V.str)) ∧ H tf = some (.tup (t.fs.map V.str)) ∧ H tu = some (.tup (t.us.map V.str))
theorem Tab.up {C : Addr} {H H' : Hp} {x : Addr} {t : Tb} (e : Same H H') (h : Tab C H x t) : Tab C H' x t := by
  obtain ⟨dx, tc, tk, tf, tu, h1, h2, h3, h4, h5⟩ := h
  exact ⟨dx, tc, tk, tf, tu, e _ _ h1, h2.up e, e _ _ h3, e _ _ h4, e _ _ h5⟩
theorem lk_columns {tc tk tf tu : Addr} {r : Bool} : (flds tc tk tf tu r).lookup ("columns" : Str) = some (.ref tc) := by
  simp only [List.lookup, beq_self_eq_true]
theorem lk_key {tc tk tf tu : Addr} {r : Bool} : (flds tc tk tf tu r).lookup ("key" : Str) = some (.ref tk) := by
  simp only [List.lookup, beq_self_eq_true, show (("key" : Str) == "columns") = false from rfl]
theorem lk_fixed {tc tk tf tu : Addr} {r : Bool} : (flds tc tk tf tu r).lookup ("fixed" : Str) = some (.ref tf) := by
  simp only [List.lookup, beq_self_eq_true, show (("fixed" : Str) == "columns") = false from rfl, show (("fixed" : Str) == "key") = false from rfl]
theorem lk_unique {tc tk tf tu : Addr} {r : Bool} : (flds tc tk tf tu r).lookup ("unique" : Str) = some (.ref tu) := by
  simp only [List.lookup, beq_self_eq_true, show (("unique" : Str) == "columns") = false from rfl, show (("unique" : Str) == "key") = false from rfl, show (("unique" : Str) == "fixed") = false from rfl]
theorem lk_reuse {tc tk tf tu : Addr} {r : Bool} : (flds tc tk tf tu r).lookup ("reuse" : Str) = some (.bl r) := by
  simp only [List.lookup, beq_self_eq_true, show (("reuse" : Str) == "columns") = false from rfl, show (("reuse" : Str) == "key") = false from rfl, show (("reuse" : Str) == "fixed") = false from rfl, show (("reuse" : Str) == "unique") = false from rfl]
theorem i_cval {K : PySem.W.Frag} {ta : TE} {f : Str} {σ : L2.St} {H : Hp} {Q : VK} (h : ta σ H fun x H1 => ∃ C mc v u, x = .ref C ∧ ClX.CRead K C mc ∧ ClX.CVal K C mc f v u ∧ Q v H1) : ClX.tCVal K ta f σ H Q := h
theorem i_fld {K : PySem.W.Frag} {ta tv : TE} {f : Str} {D : Ends} {σ : L2.St} {H : Hp} (h : tv σ H fun y H1 => ta σ H1 fun x H2 => ∃ a C dx fs, x = V.ref a ∧ H2 a = some (HO.ins C dx fs) ∧ Cls K C ∧ NoAttr K C f ∧ fs.length < 1000 ∧ D.nx σ (upd H2 a (HO.ins C dx (putF f y fs)))) : sFld K ta tv f D σ H := h
/-- all but x is as it was -/
def Off (x : Addr) (H H' : Hp) : Prop := ∀ b o, b ≠ x → H b = some o → H' b = some o
theorem Off.refl (x : Addr) (H : Hp) : Off x H H := fun _ _ _ h => h
theorem Off.trans {x : Addr} {H H1 H2 : Hp} (a : Off x H H1) (b : Off x H1 H2) : Off x H H2 := fun c o n h => b c o n (a c o n h)
theorem off_of {x : Addr} {H H' : Hp} (e : Same H H') : Off x H H' := fun b o _ h => e b o h
theorem off_upd {x : Addr} {H : Hp} {o : HO} : Off x H (upd H x o) := fun b u n h => by
  rw [upd_ne n]
  exact h
theorem sqt_off {K : PySem.W.Frag} {x C dx a : Addr} {fs : List (Str × V)} {H H' : Hp} {xs : List V} (e : Off x H H') (hx : H x = some (.ins C dx fs)) (h : SqT K H a xs) : SqT K H' a xs := by
  rcases h with (h | ⟨o, h⟩) | h
  · exact .inl (.inl (e a _ (fun z => by rw [z, hx] at h; cases h) h))
  · exact .inl (.inr ⟨o, e a _ (fun z => by rw [z, hx] at h; cases h) h⟩)
  · exact .inr h
theorem tuf_off {x C dx a : Addr} {fs : List (Str × V)} {H H' : Hp} {xs : List V} (e : Off x H H') (hx : H x = some (.ins C dx fs)) (h : TupF H a xs) : TupF H' a xs := by
  obtain ⟨o, h, r⟩ := h
  exact ⟨o, e a _ (fun z => by rw [z, hx] at h; cases h) h, r⟩
/-- the texts among the values -/
def strsOf (xs : List V) : List Str := xs.filterMap fun | .str z => some z | _ => none
theorem strsOf_map (cs : List Str) : strsOf (cs.map V.str) = cs := by
  unfold strsOf
  rw [List.filterMap_map]
  induction cs with
  | nil => rfl
  | cons c cs ih =>
    rw [List.filterMap_cons]
    simp only [Function.comp]
    rw [show List.filterMap ((fun | V.str z => some z | _ => none) ∘ V.str) cs = cs from ih]
abbrev othersOf (cs ks : List Str) : List Str := cs.filter fun c => !decide (c ∈ ks)
/-- what is wrong first -/
def dueT (xs : List V) (js : List Bool) (ks fs us : List Str) : Option Str :=
  if (namesB xs js && decide (xs.length ≤ 4)) = false then some ("columns" : Str) else
  if (chosenB ks (strsOf xs) && (decide (1 ≤ ks.length) && decide (ks.length ≤ 2))) = false then some ("key" : Str) else
  if chosenB fs (othersOf (strsOf xs) ks) = false then some ("fixed" : Str) else
  if chosenB us (othersOf (strsOf xs) ks) = false then some ("unique" : Str) else none
theorem others_snoc {cs ks : List Str} {i : Nat} {c : Str} (h : cs[i]? = some c) : othersOf (cs.take (i + 1)) ks = if c ∈ ks then othersOf (cs.take i) ks else othersOf (cs.take i) ks ++ [c] := by
  unfold othersOf
  rw [take_snoc h, List.filter_append]
  by_cases e : c ∈ ks
  · rw [if_pos e]
    simp [e]
  · rw [if_neg e]
    simp [e]
end Spk

set_option Elab.async false
set_option linter.all false
set_option maxRecDepth 100000
set_option maxHeartbeats 4000000
namespace Spk
open PySem L2
local macro_rules | `(tactic| walk_at "rd") => `(tactic| repeat (first
  | with_reducible refine i_seq ?_ | with_reducible refine i_asg ?_ | with_reducible refine i_ret ?_ | with_reducible refine i_ifS ?_ | with_reducible refine i_if ?_
  | with_reducible refine i_for ?_ | with_reducible refine i_iL ?_ | with_reducible refine i_iT ?_ | with_reducible refine i_ckw ?_ | with_reducible refine i_cm ?_ | with_reducible refine And.intro (rfl : V.ref _ = V.ref _) ?_ | with_reducible refine i_rng1 ?_ | with_reducible refine i_bm ?_ | with_reducible refine i_bm0 ?_
  | with_reducible refine i_drop ?_ | with_reducible refine i_next ?_
  | with_reducible refine i_var rfl ?_ | with_reducible refine i_c ?_ | with_reducible refine i_op ?_ | with_reducible refine i_un ?_ | with_reducible refine i_name ?_
  | with_reducible refine i_rI0 ?_ | with_reducible refine i_rU ?_ | with_reducible refine i_rEq rfl ?_ | with_reducible refine i_rNe rfl ?_
  | with_reducible refine i_test ?_ | with_reducible refine i_tB ?_ | with_reducible refine i_and ?_ | with_reducible refine i_or ?_ | with_reducible refine i_not ?_
  | with_reducible refine i_andV ?_ | with_reducible refine i_orV ?_ | with_reducible refine i_notV ?_
  | with_reducible refine i_cons ?_ | with_reducible refine i_nil ?_ | with_reducible refine i_cb ?_ | with_reducible refine i_call ?_ | with_reducible refine i_bl ?_
  | with_reducible refine i_tup ?_ | with_reducible refine i_lst ?_ | with_reducible refine i_par ?_ | with_reducible refine i_gcons ?_ | with_reducible refine i_gnil ?_
  | with_reducible refine And.intro (rfl : V.non = V.non) ?_ | with_reducible refine i_ixT (by assumption) rfl ?_ | with_reducible refine i_ixL (by assumption) rfl ?_ | with_reducible refine i_gtup (by assumption) rfl ?_
  | with_reducible refine i_gsub ?_
  | with_reducible refine Or.inl (Exists.intro _ (And.intro (rfl : [V.int _] = [V.int _]) ?_)) | with_reducible refine Exists.intro _ (And.intro (rfl : [V.int _] = [V.int _]) ?_)
  | with_reducible refine Or.inr (Exists.intro _ (And.intro (rfl : [V.bl _] = [V.bl _]) ?_))
  | with_reducible refine Exists.intro _ (Exists.intro _ (And.intro (rfl : [V.int _, V.int _] = [V.int _, V.int _]) ?_))
  | with_reducible refine Exists.intro _ (Exists.intro _ (And.intro (rfl : [V.ref _] = [V.ref _]) (And.intro (Or.inl (SqL.of (by assumption))) ?_)))
  | with_reducible refine i_rI (show (0 : Int) < _ by assumption) ?_ | with_reducible refine i_rI (show (0 : Int) < _ by decide) ?_
  | with_reducible refine i_rI (pow_ok (Nat.le_of_ble_eq_true rfl) (Nat.le_of_ble_eq_true rfl)) ?_
  | with_reducible refine i_rI (cmulL rfl) ?_))
section
variable {P : Program} {w : World} {K : PySem.W.Frag} {mg : Str → Option Value} {base : Heap} {C fI p g CI fX : Addr} {mc : Value}
abbrev s_Table__init : Stmt := inClass (top 29) 1
theorem sc_Table__init : FnScope ["self", "key", "fixed", "unique", "reuse", "columns", "others", "column"] ["self", "key", "fixed", "unique", "reuse", "columns"] (defScope s_Table__init) := ⟨rfl, rfl, rfl, by decide +kernel, rfl, by decide +kernel, by decide +kernel⟩
def sp_tinit (K : PySem.W.Frag) (C CI : Addr) : Sp := fun vs H Q E => ∃ x dx tk tf tu p, ∃ xs js, ∃ ks fs us : List Str, ∃ r : Bool, vs = [.ref x, .ref tk, .ref tf, .ref tu, .bl r, .ref p] ∧ H x = some (.ins C dx []) ∧ TupF H p xs ∧ xs.length ≤ 100 ∧ Paired (NmV K H) xs js ∧
  TuS K H tk (ks.map V.str) ∧ TuS K H tf (fs.map V.str) ∧ TuS K H tu (us.map V.str) ∧ ks.length ≤ 100 ∧ fs.length ≤ 100 ∧ us.length ≤ 100 ∧
  (∀ rs, dueT xs js ks fs us = some rs → Told CI H E rs) ∧
  (∀ cs, dueT xs js ks fs us = none → xs = cs.map V.str → ∀ H', Off x H H' → Tab C H' x ⟨cs, among cs ks, among cs fs, among cs us, r⟩ → Q .non H')
theorem told_up {CI : Addr} {H H' : Hp} {E : XK} {r : Str} (s : Same H H') (h : Told CI H E r) : Told CI H' E r := fun d H2 s2 hd => h d H2 (fun b o z => s2 _ _ (s _ _ z)) hd
theorem run_tinit {fA fC fO : Addr} {fdA fdC fdO fdX : FuncData} (T : ClsT K mg C fI mc p g) (XI : XIt K mg CI fX) (B_iinit : Binds K fdX ["self", "reason"] []) (G_iinit : FnOk P w K mg base CX0 1 fX fdX ["self", "reason"] (sp_iinit CI))
    (F_are_names : Fun K "are_names" "are_names" s_are_names fA fdA) (B_are_names : Binds K fdA ["things"] []) (g_are_names : mg "are_names" = some (.ref fA)) (G_are_names : FnOk P w K mg base CX0 2 fA fdA ["things"] (sp_are_names K))
    (F_are_chosen : Fun K "are_chosen" "are_chosen" s_are_chosen fC fdC) (B_are_chosen : Binds K fdC ["names", "columns"] []) (g_are_chosen : mg "are_chosen" = some (.ref fC)) (G_are_chosen : FnOk P w K mg base CX0 1 fC fdC ["names", "columns"] (sp_are_chosen K))
    (F_in_order_of : Fun K "in_order_of" "in_order_of" s_in_order_of fO fdO) (B_in_order_of : Binds K fdO ["columns", "names"] []) (g_in_order_of : mg "in_order_of" = some (.ref fO)) (G_in_order_of : FnOk P w K mg base CX0 1 fO fdO ["columns", "names"] (sp_in_order_of K))
    (z_len : mg "len" = none) {f : Addr} {cdv : Value} {A : Around} {outer : List Env} {s : Shared} {H : Hp} {vs : List V} {Q : VK} {E : XK} (hr : Room 2 (A.deeper (PyProof.Rows.envOfC "Table.__init__" (defScope s_Table__init) s.heap.objs.size f cdv))) (h : sp_tinit K C CI vs H Q E) :
    ∃ t, PSs (cxOf (L2.CX P w) P w K mg base ["self", "key", "fixed", "unique", "reuse", "columns", "others", "column"] "Table.__init__" (defScope s_Table__init) f cdv A outer s H E) (defBody s_Table__init) t ∧ t { nx := fun _ H1 => Q .non H1, rt := Q } (L2.start ["self", "key", "fixed", "unique", "reuse", "columns", "others", "column"] vs) H := by
  have g_C := T.g_C
  obtain ⟨u4, hmost⟩ := T.most
  obtain ⟨x, dx, tk, tf, tu, p, xs, js, ks, fs, us, r, rfl, hx, hp, hz, nm, hk, hf, hu, kz, fz, uz, qe, q⟩ := h
  refine ⟨_, (pss_cons (ps_if (pt_not (PW.pt (pw_and (pt_val (pe_call G_are_names (hr.mono (by decide)) rfl g_are_names F_are_names.kp B_are_names .nil pass0 (pa_cons (pv 5) pa_nil))) (pw_and1 (pt_cmpR op_le (pe_callB call_len_seq (by rfl) z_len PySem.boot_len (pa_cons (pv 5) pa_nil)) (ClX.pe_cval (pe_glob rfl g_C (relR _)) rfl) (nomark _))))))
 (pss_one (ps_raise rfl (takes_of rfl rfl rfl rfl) (pmk_oex XI.o XI.iC XI.tI G_iinit (hr.mono (by decide)) B_iinit .nil pass0 rfl XI.g (pa_cons pe_str pa_nil))))
 pss_nil)
 (pss_cons (ps_if (pt_not (PW.pt (pw_and (pt_val (pe_call G_are_chosen (hr.mono (by decide)) rfl g_are_chosen F_are_chosen.kp B_are_chosen .nil pass0 (pa_cons (pv 1) (pa_cons (pv 5) pa_nil)))) (pw_and1 (pt_chain op_le op_le pe_int (pe_callB call_len_seq (by rfl) z_len PySem.boot_len (pa_cons (pv 1) pa_nil)) pe_int)))))
 (pss_one (ps_raise rfl (takes_of rfl rfl rfl rfl) (pmk_oex XI.o XI.iC XI.tI G_iinit (hr.mono (by decide)) B_iinit .nil pass0 rfl XI.g (pa_cons pe_str pa_nil))))
 pss_nil)
 (pss_cons (ps_setLc (i := 6) (own := [("column", 7)]) (g := gName 7) rfl sc_Table__init.nd rfl rfl (sw_true rfl rfl rfl (by decide +kernel)) (pi_tup (pv 5)) (blkOk_by (own := [("column", 7)]) (N := ["self", "key", "fixed", "unique", "reuse", "columns", "others", "column"]) (sc := defScope s_Table__init) (by decide +kernel)) (fun _ _ _ _ _ => pg_name (i := 7) sc_Table__init.nd rfl (Or.inl rfl)) (fun _ _ _ _ _ => pts_one (pt_cmpR (op_notInK (K := K) rfl) (pv 7) (pv 1) (by rfl))) (fun _ _ _ _ _ => (pv 7)))
 (pss_cons (ps_if (pt_not (pt_val (pe_call G_are_chosen (hr.mono (by decide)) rfl g_are_chosen F_are_chosen.kp B_are_chosen .nil pass0 (pa_cons (pv 2) (pa_cons (pv 6) pa_nil)))))
 (pss_one (ps_raise rfl (takes_of rfl rfl rfl rfl) (pmk_oex XI.o XI.iC XI.tI G_iinit (hr.mono (by decide)) B_iinit .nil pass0 rfl XI.g (pa_cons pe_str pa_nil))))
 pss_nil)
 (pss_cons (ps_if (pt_not (pt_val (pe_call G_are_chosen (hr.mono (by decide)) rfl g_are_chosen F_are_chosen.kp B_are_chosen .nil pass0 (pa_cons (pv 3) (pa_cons (pv 6) pa_nil)))))
 (pss_one (ps_raise rfl (takes_of rfl rfl rfl rfl) (pmk_oex XI.o XI.iC XI.tI G_iinit (hr.mono (by decide)) B_iinit .nil pass0 rfl XI.g (pa_cons pe_str pa_nil))))
 pss_nil)
 (pss_cons (ps_fld (pv 0) (pv 5) rfl)
 (pss_cons (ps_fld (pv 0) (pe_call G_in_order_of (hr.mono (by decide)) rfl g_in_order_of F_in_order_of.kp B_in_order_of .nil pass0 (pa_cons (pv 5) (pa_cons (pv 1) pa_nil))) rfl)
 (pss_cons (ps_fld (pv 0) (pe_call G_in_order_of (hr.mono (by decide)) rfl g_in_order_of F_in_order_of.kp B_in_order_of .nil pass0 (pa_cons (pv 5) (pa_cons (pv 2) pa_nil))) rfl)
 (pss_cons (ps_fld (pv 0) (pe_call G_in_order_of (hr.mono (by decide)) rfl g_in_order_of F_in_order_of.kp B_in_order_of .nil pass0 (pa_cons (pv 5) (pa_cons (pv 3) pa_nil))) rfl)
 (pss_one (ps_fld (pv 0) (pv 4) rfl))))))))))), ?_⟩
  have jl : xs.length = js.length := Paired.length nm
  walk_at "rd"
  refine ⟨p, xs, js, rfl, hp.seq, hz, nm, fun H1 s1 => ⟨_, rfl, ?_⟩⟩
  -- «columns»
  by_cases cc : (namesB xs js && decide (xs.length ≤ 4)) = false
  · have d1 : dueT xs js ks fs us = some ("columns" : Str) := by unfold dueT; rw [if_pos cc]
    have qx := told_up s1 (qe _ d1)
    cases hn : namesB xs js with
    | false =>
      refine iteF ?_
      refine iteT ?_
      exact err_at qx
    | true =>
      rw [hn, Bool.true_and] at cc
      refine iteT ?_
      walk_at "rd"
      refine ⟨p, _, rfl, .inr (SqT.ext hp.seq s1), ?_⟩
      refine i_cval ?_
      walk_at "rd"
      refine ⟨C, mc, .int 4, u4, rfl, T.rd, hmost, ?_⟩
      walk_at "rd"
      rw [decide_eq_false (show ¬ (xs.length : Int) ≤ 4 by have := of_decide_eq_false cc; omega)]
      refine iteT ?_
      exact err_at qx
  have cc' : (namesB xs js && decide (xs.length ≤ 4)) = true := by simpa using cc
  obtain ⟨hn, h4⟩ := Bool.and_eq_true_iff.mp cc'
  have x4 : xs.length ≤ 4 := of_decide_eq_true h4
  rw [hn]
  refine iteT ?_
  walk_at "rd"
  refine ⟨p, _, rfl, .inr (SqT.ext hp.seq s1), ?_⟩
  refine i_cval ?_
  walk_at "rd"
  refine ⟨C, mc, .int 4, u4, rfl, T.rd, hmost, ?_⟩
  walk_at "rd"
  rw [decide_eq_true (show (xs.length : Int) ≤ 4 by omega)]
  refine iteF ?_
  have ha : js.all id = true := by
    unfold namesB at hn
    exact (Bool.and_eq_true_iff.mp (Bool.and_eq_true_iff.mp hn).2).1
  obtain ⟨cs, rfl, _⟩ := names_of nm ha
  have cz : cs.length ≤ 4 := by simpa using x4
  have so := strsOf_map cs
  walk_at "rd"
  refine ⟨tk, p, ks, cs, rfl, hk.up s1, .inr (SqT.ext hp.seq s1), kz, fun H2 s2 => ⟨_, rfl, ?_⟩⟩
  have s02 : Same H H2 := fun b o z => s2 _ _ (s1 _ _ z)
  have sk2 : SqT K H2 tk (ks.map V.str) := SqT.ext hk.1 s02
  -- «key»
  by_cases kk : (chosenB ks cs && (decide (1 ≤ ks.length) && decide (ks.length ≤ 2))) = false
  · have d1 : dueT (cs.map V.str) js ks fs us = some ("key" : Str) := by unfold dueT; rw [if_neg cc, so, if_pos kk]
    have qx := told_up s02 (qe _ d1)
    cases hcb : chosenB ks cs with
    | false =>
      refine iteF ?_
      refine iteT ?_
      exact err_at qx
    | true =>
      rw [hcb, Bool.true_and] at kk
      refine iteT ?_
      walk_at "rd"
      refine i_chain ?_
      walk_at "rd"
      refine ⟨tk, _, rfl, .inr sk2, ?_⟩
      walk_at "rd"
      rw [List.length_map]
      by_cases k1 : 1 ≤ ks.length
      · rw [decide_eq_true (show (1 : Int) ≤ (ks.length : Int) by omega)]
        rw [decide_eq_true k1, Bool.true_and] at kk
        refine iteT ?_
        walk_at "rd"
        rw [decide_eq_false (show ¬ (ks.length : Int) ≤ 2 by have := of_decide_eq_false kk; omega)]
        refine iteT ?_
        exact err_at qx
      · rw [decide_eq_false (show ¬ (1 : Int) ≤ (ks.length : Int) by omega)]
        refine iteF ?_
        refine ⟨false, rfl, iteT ?_⟩
        exact err_at qx
  have kk' : (chosenB ks cs && (decide (1 ≤ ks.length) && decide (ks.length ≤ 2))) = true := by simpa using kk
  obtain ⟨hcb, k12⟩ := Bool.and_eq_true_iff.mp kk'
  obtain ⟨k1, k2⟩ := Bool.and_eq_true_iff.mp k12
  have k1 := of_decide_eq_true k1
  have k2 := of_decide_eq_true k2
  rw [hcb]
  refine iteT ?_
  walk_at "rd"
  refine i_chain ?_
  walk_at "rd"
  refine ⟨tk, _, rfl, .inr sk2, ?_⟩
  walk_at "rd"
  rw [List.length_map, decide_eq_true (show (1 : Int) ≤ (ks.length : Int) by omega)]
  refine iteT ?_
  walk_at "rd"
  rw [decide_eq_true (show (ks.length : Int) ≤ 2 by omega)]
  refine iteF ?_
  walk_at "rd"
  have hx2 : H2 x = some (.ins C dx []) := s02 _ _ hx
  have hp2 : TupF H2 p (cs.map V.str) := hp.up s02
  have hf2 := hf.up s02
  have hu2 := hu.up s02
  unfold tLc
  walk_at "rd"
  refine ⟨p, rfl, ⟨_, hp2.seq⟩, fun D hD => ?_⟩
  obtain ⟨H3, e3, s3, h3⟩ := new_heap (o := .lst []) hD
  refine lc_tup (K := K) (a := p) (xs := cs.map V.str) (fun i H' => Same H2 H' ∧ H' D = some (.lst ((othersOf (cs.take i) ks).map V.str))) ⟨by rw [e3]; exact s3, by rw [e3]; exact h3⟩ ?_ ?_ ?_
  · rintro i H' _ ⟨s4, _⟩
    exact SqT.ext hp2.seq s4
  · rintro i y H4 hy ⟨s4, h4⟩
    obtain ⟨c, hc, rfl⟩ := str_at hy
    have hi : i < cs.length := (List.getElem?_eq_some_iff.mp hc).1
    walk_at "rd"
    refine ⟨rfl, ?_⟩
    walk_at "rd"
    refine notIn_at (.inr (SqT.ext sk2 s4)) ⟨_, rfl, ?_⟩
    refine ite_nd (fun hm => ?_) (fun hm => ?_)
    · walk_at "rd"
      refine ⟨_, h4, size_lt ?_, Same.mut s4 hD, ?_⟩
      · rw [List.length_map]
        refine Nat.le_trans (List.length_filter_le ..) ?_
        rw [List.length_take]
        omega
      · rw [others_snoc hc, if_neg hm, upd_same, List.map_append]
        rfl
    · refine ⟨s4, ?_⟩
      rw [others_snoc hc, if_pos hm]
      exact h4
  · rintro H4 ⟨s4, h4⟩
    rw [List.length_map, List.take_length] at h4
    walk_at "rd"
    have s04 : Same H H4 := fun b o z => s4 _ _ (s02 _ _ z)
    refine ⟨tf, D, fs, othersOf cs ks, rfl, hf2.up s4, .inl (SqL.of h4), fz, fun H5 s5 => ⟨_, rfl, ?_⟩⟩
    have s05 : Same H H5 := fun b o z => s5 _ _ (s04 _ _ z)
    -- «fixed»
    cases ff : chosenB fs (othersOf cs ks) with
    | false =>
      have d1 : dueT (cs.map V.str) js ks fs us = some ("fixed" : Str) := by unfold dueT; rw [if_neg cc, so, if_neg kk, if_pos ff]
      refine iteT ?_
      exact err_at (told_up s05 (qe _ d1))
    | true =>
    refine iteF ?_
    walk_at "rd"
    refine ⟨tu, D, us, othersOf cs ks, rfl, (hu2.up s4).up s5, .inl (SqL.of (s5 _ _ h4)), uz, fun H6 s6 => ⟨_, rfl, ?_⟩⟩
    have s06' : Same H H6 := fun b o z => s6 _ _ (s05 _ _ z)
    -- «unique»
    cases uu : chosenB us (othersOf cs ks) with
    | false =>
      have d1 : dueT (cs.map V.str) js ks fs us = some ("unique" : Str) := by unfold dueT; rw [if_neg cc, so, if_neg kk, if_neg (by rw [ff]; decide), if_pos uu]
      refine iteT ?_
      exact err_at (told_up s06' (qe _ d1))
    | true =>
    have dn : dueT (cs.map V.str) js ks fs us = none := by unfold dueT; rw [if_neg cc, so, if_neg kk, if_neg (by rw [ff]; decide), if_neg (by rw [uu]; decide)]
    have q := q cs dn rfl
    refine iteF ?_
    walk_at "rd"
    have s26 : Same H2 H6 := fun b o z => s6 _ _ (s5 _ _ (s4 _ _ z))
    have hx6 : H6 x = some (.ins C dx []) := s26 _ _ hx2
    have s06 : Same H H6 := fun b o z => s26 _ _ (s02 _ _ z)
    have hp6 := hp2.up s26
    have hk6 : SqT K H6 tk (ks.map V.str) := SqT.ext sk2 s26
    have hf6 := (hf2.up s26).1
    have hu6 := (hu2.up s26).1
    refine i_fld ?_
    walk_at "rd"
    refine ⟨x, C, dx, [], rfl, hx6, T.cl, T.nC, (by show 0 < 1000; decide), ?_⟩
    obtain ⟨H7, e7⟩ : ∃ H7, upd H6 x (.ins C dx (putF "columns" (.ref p) [])) = H7 := ⟨_, rfl⟩
    have o7 : Off x H6 H7 := by rw [← e7]; exact off_upd
    have hx7 : H7 x = some (.ins C dx [("columns", .ref p)]) := by rw [← e7, upd_same]; rfl
    rw [e7]
    walk_at "rd"
    refine i_fld ?_
    walk_at "rd"
    refine ⟨p, tk, cs, ks, rfl, (tuf_off o7 hx6 hp6).seq, sqt_off o7 hx6 hk6, by omega, fun q1 H8 s8 h8 => ?_⟩
    walk_at "rd"
    have hx8 := s8 _ _ hx7
    refine ⟨x, C, dx, _, rfl, hx8, T.cl, T.nK, (by show 1 < 1000; decide), ?_⟩
    obtain ⟨H9, e9⟩ : ∃ H9, upd H8 x (.ins C dx (putF "key" (.ref q1) [("columns", .ref p)])) = H9 := ⟨_, rfl⟩
    have o9 : Off x H8 H9 := by rw [← e9]; exact off_upd
    have hx9 : H9 x = some (.ins C dx [("columns", .ref p), ("key", .ref q1)]) := by rw [← e9, upd_same]; rfl
    rw [e9]
    have o79 : Off x H7 H9 := (off_of s8).trans o9
    have o69 : Off x H6 H9 := o7.trans o79
    have ne1 : q1 ≠ x := fun z => by rw [z, hx8] at h8; cases h8
    have h9 := o9 _ _ ne1 h8
    walk_at "rd"
    refine i_fld ?_
    walk_at "rd"
    refine ⟨p, tf, cs, fs, rfl, (tuf_off o69 hx6 hp6).seq, sqt_off o69 hx6 hf6, by omega, fun q2 H10 s10 h10 => ?_⟩
    walk_at "rd"
    have hx10 := s10 _ _ hx9
    refine ⟨x, C, dx, _, rfl, hx10, T.cl, T.nF, (by show 2 < 1000; decide), ?_⟩
    obtain ⟨H11, e11⟩ : ∃ H11, upd H10 x (.ins C dx (putF "fixed" (.ref q2) [("columns", .ref p), ("key", .ref q1)])) = H11 := ⟨_, rfl⟩
    have o11 : Off x H10 H11 := by rw [← e11]; exact off_upd
    have hx11 : H11 x = some (.ins C dx [("columns", .ref p), ("key", .ref q1), ("fixed", .ref q2)]) := by rw [← e11, upd_same]; rfl
    rw [e11]
    have o911 : Off x H9 H11 := (off_of s10).trans o11
    have o611 : Off x H6 H11 := o69.trans o911
    have ne2 : q2 ≠ x := fun z => by rw [z, hx10] at h10; cases h10
    have h11 := o11 _ _ ne2 h10
    walk_at "rd"
    refine i_fld ?_
    walk_at "rd"
    refine ⟨p, tu, cs, us, rfl, (tuf_off o611 hx6 hp6).seq, sqt_off o611 hx6 hu6, by omega, fun q3 H12 s12 h12 => ?_⟩
    walk_at "rd"
    have hx12 := s12 _ _ hx11
    refine ⟨x, C, dx, _, rfl, hx12, T.cl, T.nU, (by show 3 < 1000; decide), ?_⟩
    obtain ⟨H13, e13⟩ : ∃ H13, upd H12 x (.ins C dx (putF "unique" (.ref q3) [("columns", .ref p), ("key", .ref q1), ("fixed", .ref q2)])) = H13 := ⟨_, rfl⟩
    have o13 : Off x H12 H13 := by rw [← e13]; exact off_upd
    have hx13 : H13 x = some (.ins C dx [("columns", .ref p), ("key", .ref q1), ("fixed", .ref q2), ("unique", .ref q3)]) := by rw [← e13, upd_same]; rfl
    rw [e13]
    have ne3 : q3 ≠ x := fun z => by rw [z, hx12] at h12; cases h12
    have h13 := o13 _ _ ne3 h12
    walk_at "rd"
    dsimp only
    refine i_fld ?_
    walk_at "rd"
    refine ⟨x, C, dx, _, rfl, hx13, T.cl, T.nR, (by show 4 < 1000; decide), ?_⟩
    obtain ⟨H14, e14⟩ : ∃ H14, upd H13 x (.ins C dx (putF "reuse" (.bl r) [("columns", .ref p), ("key", .ref q1), ("fixed", .ref q2), ("unique", .ref q3)])) = H14 := ⟨_, rfl⟩
    have o14 : Off x H13 H14 := by rw [← e14]; exact off_upd
    have hx14 : H14 x = some (.ins C dx (flds p q1 q2 q3 r)) := by rw [← e14, upd_same]; rfl
    rw [e14]
    have o1114 : Off x H11 H14 := ((off_of s12).trans o13).trans o14
    have o914 : Off x H9 H14 := o911.trans o1114
    have o614 : Off x H6 H14 := o69.trans o914
    exact q H14 ((off_of s06).trans o614) ⟨dx, p, q1, q2, q3, hx14, tuf_off o614 hx6 hp6, o914 _ _ ne1 h9, o1114 _ _ ne2 h11, o14 _ _ ne3 h13⟩
end
end Spk

set_option Elab.async false
set_option linter.all false
set_option maxRecDepth 100000
set_option maxHeartbeats 2000000
namespace Spk
open PySem L2
local macro_rules | `(tactic| walk_at "rd") => `(tactic| repeat (first
  | with_reducible refine i_seq ?_ | with_reducible refine i_asg ?_ | with_reducible refine i_ret ?_ | with_reducible refine i_ifS ?_ | with_reducible refine i_if ?_
  | with_reducible refine i_for ?_ | with_reducible refine i_iL ?_ | with_reducible refine i_iT ?_ | with_reducible refine i_ckw ?_ | with_reducible refine i_cm ?_ | with_reducible refine And.intro (rfl : V.ref _ = V.ref _) ?_ | with_reducible refine i_rng1 ?_ | with_reducible refine i_bm ?_ | with_reducible refine i_bm0 ?_
  | with_reducible refine i_drop ?_ | with_reducible refine i_next ?_
  | with_reducible refine i_var rfl ?_ | with_reducible refine i_c ?_ | with_reducible refine i_op ?_ | with_reducible refine i_un ?_ | with_reducible refine i_name ?_
  | with_reducible refine i_rI0 ?_ | with_reducible refine i_rU ?_ | with_reducible refine i_rEq rfl ?_ | with_reducible refine i_rNe rfl ?_
  | with_reducible refine i_test ?_ | with_reducible refine i_tB ?_ | with_reducible refine i_and ?_ | with_reducible refine i_or ?_ | with_reducible refine i_not ?_
  | with_reducible refine i_andV ?_ | with_reducible refine i_orV ?_ | with_reducible refine i_notV ?_
  | with_reducible refine i_cons ?_ | with_reducible refine i_nil ?_ | with_reducible refine i_cb ?_ | with_reducible refine i_call ?_ | with_reducible refine i_bl ?_
  | with_reducible refine i_tup ?_ | with_reducible refine i_lst ?_ | with_reducible refine i_par ?_ | with_reducible refine i_gcons ?_ | with_reducible refine i_gnil ?_
  | with_reducible refine And.intro (rfl : V.non = V.non) ?_ | with_reducible refine i_ixT (by assumption) rfl ?_ | with_reducible refine i_ixL (by assumption) rfl ?_ | with_reducible refine i_gtup (by assumption) rfl ?_
  | with_reducible refine i_gsub ?_
  | with_reducible refine Or.inl (Exists.intro _ (And.intro (rfl : [V.int _] = [V.int _]) ?_)) | with_reducible refine Exists.intro _ (And.intro (rfl : [V.int _] = [V.int _]) ?_)
  | with_reducible refine Or.inr (Exists.intro _ (And.intro (rfl : [V.bl _] = [V.bl _]) ?_))
  | with_reducible refine Exists.intro _ (Exists.intro _ (And.intro (rfl : [V.int _, V.int _] = [V.int _, V.int _]) ?_))
  | with_reducible refine Exists.intro _ (Exists.intro _ (And.intro (rfl : [V.ref _] = [V.ref _]) (And.intro (Or.inl (SqL.of (by assumption))) ?_)))
  | with_reducible refine i_rI (show (0 : Int) < _ by assumption) ?_ | with_reducible refine i_rI (show (0 : Int) < _ by decide) ?_
  | with_reducible refine i_rI (pow_ok (Nat.le_of_ble_eq_true rfl) (Nat.le_of_ble_eq_true rfl)) ?_
  | with_reducible refine i_rI (cmulL rfl) ?_))
section
variable {P : Program} {w : World} {K : PySem.W.Frag} {mg : Str → Option Value} {base : Heap} {C fI p g CI fX : Addr} {mc : Value}
abbrev kwN : List Str := ["key", "fixed", "unique", "reuse"]
theorem bind_tinit {kV doc pm : Value} {an : Option Addr} {cdv ct : Value} : ∀ us rest ws : List Value, us.length = (["self"] : List Str).length → ws.length = kwN.length →
    bindArgs (PySem.W.fnOf "__init__" "Table.__init__" (defArgs s_Table__init) (defBody s_Table__init) (defScope s_Table__init) .none kV doc pm an cdv ct) ⟨us ++ rest, kwN.zip ws⟩ = (newTuple rest >>= fun t => pure (((["self"] : List Str) ++ kwN).zip (us ++ ws) ++ [(("columns" : Str), t)]))
  | [u], [], [a, b, c, d], _, _ => rfl
  | [u], r :: rs, [a, b, c, d], _, _ => rfl
abbrev mK (K : PySem.W.Frag) (C CI : Addr) : List V → List V → Hp → VK → XK → Prop := fun vs zs H Q E => ∃ ws rest, vs = ws ++ rest ∧ ws.length = (["self"] : List Str).length ∧ rest.length ≤ sizeLine ∧ ∀ p o, H p = none → o.cls = .type "tuple" → o.dict = none → sp_tinit K C CI (ws ++ zs ++ [V.ref p]) (upd H p (.frz o (.tup rest))) Q E
theorem ok_tinit {fd fdX : FuncData} {fA fC fO : Addr} {fdA fdC fdO : FuncData} (F : Fun K "__init__" "Table.__init__" s_Table__init fI fd) (T : ClsT K mg C fI mc p g) (XI : XIt K mg CI fX) (B_iinit : Binds K fdX ["self", "reason"] []) (G_iinit : FnOk P w K mg base CX0 1 fX fdX ["self", "reason"] (sp_iinit CI))
    (F_are_names : Fun K "are_names" "are_names" s_are_names fA fdA) (B_are_names : Binds K fdA ["things"] []) (g_are_names : mg "are_names" = some (.ref fA)) (G_are_names : FnOk P w K mg base CX0 2 fA fdA ["things"] (sp_are_names K))
    (F_are_chosen : Fun K "are_chosen" "are_chosen" s_are_chosen fC fdC) (B_are_chosen : Binds K fdC ["names", "columns"] []) (g_are_chosen : mg "are_chosen" = some (.ref fC)) (G_are_chosen : FnOk P w K mg base CX0 1 fC fdC ["names", "columns"] (sp_are_chosen K))
    (F_in_order_of : Fun K "in_order_of" "in_order_of" s_in_order_of fO fdO) (B_in_order_of : Binds K fdO ["columns", "names"] []) (g_in_order_of : mg "in_order_of" = some (.ref fO)) (G_in_order_of : FnOk P w K mg base CX0 1 fO fdO ["columns", "names"] (sp_in_order_of K))
    (z_len : mg "len" = none) : FnK P w K mg base (L2.CX P w) 3 fI kwN (mK K C CI) := by
  obtain ⟨oc, od, kV, doc, pm, an, cdv, ct, osl, rfl, lk, hcd⟩ := F.ex
  refine fn_starK (ps := ["self"]) (ks := kwN) (pv := "columns") lk hcd sc_Table__init StX.cxUp bind_tinit fun A outer s H vs Q E hr h => ?_
  exact run_tinit T XI B_iinit G_iinit F_are_names B_are_names g_are_names G_are_names F_are_chosen B_are_chosen g_are_chosen G_are_chosen F_in_order_of B_in_order_of g_in_order_of G_in_order_of z_len hr h
/-- what is asked of a making: the error, or the table -/
structure Asks (C CI : Addr) (H : Hp) (Q : VK) (E : XK) (xs : List V) (js : List Bool) (ks fs us : List Str) (r : Bool) : Prop where
  no : ∀ rs, dueT xs js ks fs us = some rs → Told CI H E rs
  yes : ∀ cs, dueT xs js ks fs us = none → xs = cs.map V.str → ∀ x H', Same H H' → Tab C H' x ⟨cs, among cs ks, among cs fs, among cs us, r⟩ → Q (.ref x) H'
theorem Asks.up {C CI : Addr} {H H' : Hp} {Q : VK} {E : XK} {xs : List V} {js : List Bool} {ks fs us : List Str} {r : Bool} (s : Same H H') (h : Asks C CI H Q E xs js ks fs us r) : Asks C CI H' Q E xs js ks fs us r :=
  ⟨fun rs d => told_up s (h.no rs d), fun cs d e x H2 s2 t => h.yes cs d e x H2 (fun b o z => s2 _ _ (s _ _ z)) t⟩
/-- what is handed in -/
structure Given (K : PySem.W.Frag) (H : Hp) (xs : List V) (js : List Bool) (tk tf tu : Addr) (ks fs us : List Str) : Prop where
  z : xs.length ≤ 100
  nm : Paired (NmV K H) xs js
  k : TuS K H tk (ks.map V.str)
  f : TuS K H tf (fs.map V.str)
  u : TuS K H tu (us.map V.str)
  kz : ks.length ≤ 100
  fz : fs.length ≤ 100
  uz : us.length ≤ 100
theorem Given.up {K : PySem.W.Frag} {H H' : Hp} {xs : List V} {js : List Bool} {tk tf tu : Addr} {ks fs us : List Str} (s : Same H H') (h : Given K H xs js tk tf tu ks fs us) : Given K H' xs js tk tf tu ks fs us :=
  ⟨h.z, Paired.mapP h.nm fun _ _ q => q.up s, h.k.up s, h.f.up s, h.u.up s, h.kz, h.fz, h.uz⟩
theorem mk_tab {H : Hp} {Q : VK} {E : XK} {xs : List V} {js : List Bool} {tk tf tu : Addr} {ks fs us : List Str} {r : Bool} (gv : Given K H xs js tk tf tu ks fs us) (as : Asks C CI H Q E xs js ks fs us r) :
    ∀ x dx, H x = none → H dx = none → dx ≠ x → mK K C CI (V.ref x :: xs) [.ref tk, .ref tf, .ref tu, .bl r] (upd (upd H dx (.own x)) x (.ins C dx [])) (fun v H3 => v = .non ∧ Q (.ref x) H3) E := by
  intro x dx hx hdx hne
  refine ⟨[.ref x], xs, rfl, rfl, size_of (by have := gv.z; omega), fun p' o hp' oc od => ?_⟩
  have xp : x ≠ p' := fun z => by rw [← z, upd_same] at hp'; cases hp'
  have s2 : Same H (upd (upd (upd H dx (.own x)) x (.ins C dx [])) p' (.frz o (.tup xs))) := fun b u e => by
    have n1 := ne_of_none e hx
    have n2 := ne_of_none e hdx
    have n3 : b ≠ p' := fun z => by
      rw [← z, upd_ne n1, upd_ne n2, e] at hp'
      cases hp'
    rw [upd_ne n3, upd_ne n1, upd_ne n2]
    exact e
  have gv2 := gv.up s2
  refine ⟨x, dx, tk, tf, tu, p', xs, js, ks, fs, us, r, rfl, by rw [upd_ne xp]; exact upd_same, ⟨o, upd_same, oc, od⟩, gv2.z, gv2.nm, gv2.k, gv2.f, gv2.u, gv2.kz, gv2.fz, gv2.uz, fun rs d => told_up s2 (as.no rs d), fun cs d e H' off tb => ⟨rfl, as.yes cs d e x H' (fun b u e1 => ?_) tb⟩⟩
  exact off b u (ne_of_none e1 hx) (s2 _ _ e1)
abbrev s_Table_of : Stmt := inClass (top 29) 2
theorem sc_Table_of : FnScope ["cls", "columns", "key", "fixed", "unique", "reuse", "names"] ["cls", "columns", "key", "fixed", "unique", "reuse"] (defScope s_Table_of) := ⟨rfl, rfl, rfl, by decide +kernel, rfl, by decide +kernel, by decide +kernel⟩
def sp_tof (K : PySem.W.Frag) (C CI : Addr) : Sp := fun vs H Q E => ∃ l tk tf tu, ∃ xs js, ∃ ks fs us : List Str, ∃ r : Bool, vs = [.ref C, .ref l, .ref tk, .ref tf, .ref tu, .bl r] ∧ (H l = some (.lst xs) ∨ H l = some (.tup xs)) ∧ Given K H xs js tk tf tu ks fs us ∧ Asks C CI H Q E xs js ks fs us r
theorem ok_tof {f fS : Addr} {fd fdS : FuncData} (F : Fun K "of" "Table.of" s_Table_of f fd) (T : ClsT K mg C fI mc p g) (FI : FnK P w K mg base (L2.CX P w) 3 fI kwN (mK K C CI))
    (F_sequence_of : Fun K "sequence_of" "sequence_of" s_sequence_of fS fdS) (B_sequence_of : Binds K fdS ["things"] []) (g_sequence_of : mg "sequence_of" = some (.ref fS)) (G_sequence_of : FnOk P w K mg base CX0 1 fS fdS ["things"] (sp_sequence_of K)) :
    FnOk P w K mg base (L2.CX P w) 5 f fd ["cls", "columns", "key", "fixed", "unique", "reuse"] (sp_tof K C CI) := by
  have M := T.M
  have g_C := T.g_C
  refine F.okX sc_Table_of (fun vs H Q E h => ?_) (fun cdv A outer s H vs Q E hr h => ?_)
  · obtain ⟨l, tk, tf, tu, xs, js, ks, fs, us, r, rfl, _⟩ := h
    rfl
  · obtain ⟨l, tk, tf, tu, xs, js, ks, fs, us, r, rfl, hl, gv, as⟩ := h
    refine ⟨_, (pss_cons (ps_set (i := 6) sc_Table_of.nd rfl (Or.inl rfl) (pe_call G_sequence_of (hr.mono (by decide)) rfl g_sequence_of F_sequence_of.kp B_sequence_of .nil pass0 (pa_cons (pv 1) pa_nil)))
 (pss_one (ps_ret (pe_makeSK M FI (hr.mono (by decide)) rfl g_C (passE (takes_of rfl rfl rfl rfl)) (pv 6) (pk_cons (pv 2) (pk_cons (pv 3) (pk_cons (pv 4) (pk_cons (pv 5) pk_nil)))))))), ?_⟩
    walk_at "rd"
    refine ⟨l, _, rfl, hl, fun t H1 s1 h1 => ?_⟩
    walk_at "rd"
    unfold tMakeSK
    walk_at "rd"
    refine ⟨t, xs, rfl, ?_⟩
    walk_at "rd"
    exact ⟨.inl (SqT.of h1), rfl, mk_tab (gv.up s1) (as.up s1)⟩
end
end Spk

set_option Elab.async false
set_option linter.all false
set_option maxRecDepth 100000
set_option maxHeartbeats 4000000
namespace Spk
open PySem L2
local macro_rules | `(tactic| walk_at "rd") => `(tactic| repeat (first
  | with_reducible refine i_seq ?_ | with_reducible refine i_asg ?_ | with_reducible refine i_ret ?_ | with_reducible refine i_ifS ?_ | with_reducible refine i_if ?_
  | with_reducible refine i_for ?_ | with_reducible refine i_iL ?_ | with_reducible refine i_iT ?_ | with_reducible refine i_ckw ?_ | with_reducible refine i_cm ?_ | with_reducible refine And.intro (rfl : V.ref _ = V.ref _) ?_ | with_reducible refine i_rng1 ?_ | with_reducible refine i_bm ?_ | with_reducible refine i_bm0 ?_
  | with_reducible refine i_drop ?_ | with_reducible refine i_next ?_
  | with_reducible refine i_var rfl ?_ | with_reducible refine i_c ?_ | with_reducible refine i_op ?_ | with_reducible refine i_un ?_ | with_reducible refine i_name ?_
  | with_reducible refine i_rI0 ?_ | with_reducible refine i_rU ?_ | with_reducible refine i_rEq rfl ?_ | with_reducible refine i_rNe rfl ?_
  | with_reducible refine i_test ?_ | with_reducible refine i_tB ?_ | with_reducible refine i_and ?_ | with_reducible refine i_or ?_ | with_reducible refine i_not ?_
  | with_reducible refine i_andV ?_ | with_reducible refine i_orV ?_ | with_reducible refine i_notV ?_
  | with_reducible refine i_cons ?_ | with_reducible refine i_nil ?_ | with_reducible refine i_cb ?_ | with_reducible refine i_call ?_ | with_reducible refine i_bl ?_
  | with_reducible refine i_tup ?_ | with_reducible refine i_lst ?_ | with_reducible refine i_par ?_ | with_reducible refine i_gcons ?_ | with_reducible refine i_gnil ?_
  | with_reducible refine And.intro (rfl : V.non = V.non) ?_ | with_reducible refine i_ixT (by assumption) rfl ?_ | with_reducible refine i_ixL (by assumption) rfl ?_ | with_reducible refine i_gtup (by assumption) rfl ?_
  | with_reducible refine i_gsub ?_
  | with_reducible refine Or.inl (Exists.intro _ (And.intro (rfl : [V.int _] = [V.int _]) ?_)) | with_reducible refine Exists.intro _ (And.intro (rfl : [V.int _] = [V.int _]) ?_)
  | with_reducible refine Or.inr (Exists.intro _ (And.intro (rfl : [V.bl _] = [V.bl _]) ?_))
  | with_reducible refine Exists.intro _ (Exists.intro _ (And.intro (rfl : [V.int _, V.int _] = [V.int _, V.int _]) ?_))
  | with_reducible refine Exists.intro _ (Exists.intro _ (And.intro (rfl : [V.ref _] = [V.ref _]) (And.intro (Or.inl (SqL.of (by assumption))) ?_)))
  | with_reducible refine i_rI (show (0 : Int) < _ by assumption) ?_ | with_reducible refine i_rI (show (0 : Int) < _ by decide) ?_
  | with_reducible refine i_rI (pow_ok (Nat.le_of_ble_eq_true rfl) (Nat.le_of_ble_eq_true rfl)) ?_
  | with_reducible refine i_rI (cmulL rfl) ?_))
/-! ### kinds of things -/
/-- any other value, by its type -/
def Other (K : PySem.W.Frag) (H : Hp) (y : V) : Prop := ∃ t, TyX K H y t ∧ (PySem.W.kitOne K t (.type "int") = some false ∨ (PySem.W.kitOne K t (.type "int") = some true ∧ PySem.W.kitOne K t (.type "bool") = some true))
abbrev absI (n : Int) : Int := if n < 0 then -n else n
abbrev big : Int := (10 : Int) ^ (30 : Int).toNat
/-- what is_value says of it -/
def SaysV (K : PySem.W.Frag) (H : Hp) (y : V) (k : Bool) : Prop := (∃ n, y = .int n ∧ k = decide (absI n < big)) ∨ (Other K H y ∧ k = false)
section
variable {P : Program} {w : World} {K : PySem.W.Frag} {mg : Str → Option Value} {base : Heap}
abbrev s_is_number : Stmt := top 22
theorem sc_is_number : FnScope ["thing"] ["thing"] (defScope s_is_number) := ⟨rfl, rfl, rfl, by decide +kernel, rfl, by decide +kernel, by decide +kernel⟩
def sp_is_number (K : PySem.W.Frag) : Sp := fun vs H Q _ => ∃ y k, vs = [y] ∧ ((∃ n, y = .int n ∧ k = true) ∨ (Other K H y ∧ k = false)) ∧ Q (.bl k) H
theorem ok_is_number {f : Addr} {fd : FuncData} (F : Fun K "is_number" "is_number" s_is_number f fd) (z_isinstance : mg "isinstance" = none) (z_int : mg "int" = none) (z_bool : mg "bool" = none) : FnOk P w K mg base CX0 1 f fd ["thing"] (sp_is_number K) := by
  refine F.ok sc_is_number (fun vs H Q E h => ?_) (fun cdv A outer s H vs Q E hr h => ?_)
  · obtain ⟨y, k, rfl, _⟩ := h
    rfl
  · obtain ⟨y, k, rfl, h, q⟩ := h
    refine ⟨_, (pss_one (ps_ret (pe_and (pe_callB call_isi (by rfl) z_isinstance (by decide +kernel) (pa_cons (pv 0) (pa_cons (pe_bltn (v := .ty "int") (u := .type "int") (by rfl) z_int (by decide +kernel) rfl) pa_nil))) (pe_one (pe_not (pe_callB call_isi (by rfl) z_isinstance (by decide +kernel) (pa_cons (pv 0) (pa_cons (pe_bltn (v := .ty "bool") (u := .type "bool") (by rfl) z_bool (by decide +kernel) rfl) pa_nil)))))))), ?_⟩
    walk_at "rd"
    rcases h with ⟨n, rfl, rfl⟩ | ⟨⟨t, ty, ho⟩, rfl⟩
    · refine ⟨_, _, _, _, true, rfl, .ty "int", .base (.int n), kit_ty (by decide +kernel), true, rfl, iteT ?_⟩
      walk_at "rd"
      refine ⟨_, _, _, _, false, rfl, .ty "bool", .base (.int n), kit_ty (by decide +kernel), false, rfl, ?_⟩
      exact q
    · rcases ho with h1 | ⟨h1, h2⟩
      · exact ⟨_, _, _, _, false, rfl, .ty "int", ty, h1, false, rfl, iteF q⟩
      · refine ⟨_, _, _, _, true, rfl, .ty "int", ty, h1, true, rfl, iteT ?_⟩
        walk_at "rd"
        exact ⟨_, _, _, _, true, rfl, .ty "bool", ty, h2, true, rfl, q⟩
abbrev s_is_value : Stmt := top 23
theorem sc_is_value : FnScope ["thing"] ["thing"] (defScope s_is_value) := ⟨rfl, rfl, rfl, by decide +kernel, rfl, by decide +kernel, by decide +kernel⟩
def sp_is_value (K : PySem.W.Frag) : Sp := fun vs H Q _ => ∃ y k, vs = [y] ∧ SaysV K H y k ∧ Q (.bl k) H
theorem ok_is_value {f fN : Addr} {fd fdN : FuncData} (F : Fun K "is_value" "is_value" s_is_value f fd) (F_is_number : Fun K "is_number" "is_number" s_is_number fN fdN) (B_is_number : Binds K fdN ["thing"] []) (g_is_number : mg "is_number" = some (.ref fN))
    (G_is_number : FnOk P w K mg base CX0 1 fN fdN ["thing"] (sp_is_number K)) (z_abs : mg "abs" = none) : FnOk P w K mg base CX0 2 f fd ["thing"] (sp_is_value K) := by
  refine F.ok sc_is_value (fun vs H Q E h => ?_) (fun cdv A outer s H vs Q E hr h => ?_)
  · obtain ⟨y, k, rfl, _⟩ := h
    rfl
  · obtain ⟨y, k, rfl, h, q⟩ := h
    refine ⟨_, (pss_one (ps_ret (pe_and (pe_call G_is_number (hr.mono (by decide)) rfl g_is_number F_is_number.kp B_is_number .nil pass0 (pa_cons (pv 0) pa_nil)) (pe_one (pe_cmpR op_lt (pe_callB call_abs (by rfl) z_abs (by decide +kernel) (pa_cons (pv 0) pa_nil)) (pe_op op_pow pe_int pe_int) (nomark _)))))), ?_⟩
    walk_at "rd"
    rcases h with ⟨n, rfl, rfl⟩ | ⟨o, rfl⟩
    · refine ⟨.int n, true, rfl, .inl ⟨n, rfl, rfl⟩, true, rfl, iteT ?_⟩
      walk_at "rd"
      exact q
    · exact ⟨y, false, rfl, .inr ⟨o, rfl⟩, false, rfl, iteF q⟩
end
/-! ### rows -/
theorem SaysV.up {K : PySem.W.Frag} {H H' : Hp} {y : V} {k : Bool} (e : Same H H') (h : SaysV K H y k) : SaysV K H' y k := by
  rcases h with ⟨n, h, h2⟩ | ⟨⟨t, ty, o⟩, h⟩
  · exact .inl ⟨n, h, h2⟩
  · exact .inr ⟨⟨t, ty_up e ty, o⟩, h⟩
/-- what is said of each value -/
def cellsL (ks : List Str) : List Str → List V → List Bool → List Bool
  | c :: cs, v :: vs, j :: js => (j || (decide (v = .non) && !decide (c ∈ ks))) :: cellsL ks cs vs js
  | _, _, _ => []
theorem cells_at {ks : List Str} : ∀ {cs : List Str} {vs : List V} {js : List Bool} {i : Nat} {c : Str} {v : V} {j : Bool}, cs[i]? = some c → vs[i]? = some v → js[i]? = some j → (cellsL ks cs vs js)[i]? = some (j || (decide (v = .non) && !decide (c ∈ ks)))
  | c :: cs, v :: vs, j :: js, 0, _, _, _, h1, h2, h3 => by
    cases h1
    cases h2
    cases h3
    rfl
  | c :: cs, v :: vs, j :: js, i + 1, _, _, _, h1, h2, h3 => by
    have := cells_at (ks := ks) (cs := cs) (vs := vs) (js := js) (i := i) h1 h2 h3
    exact this
  | [], _, _, i, _, _, _, h1, _, _ => by simp at h1
  | _ :: _, [], _, i, _, _, _, _, h2, _ => by simp at h2
  | _ :: _, _ :: _, [], i, _, _, _, _, _, h3 => by simp at h3
theorem cells_len {ks : List Str} : ∀ {cs : List Str} {vs : List V} {js : List Bool}, vs.length = cs.length → js.length = cs.length → (cellsL ks cs vs js).length = cs.length
  | [], _, _, _, _ => by simp [cellsL]
  | c :: cs, [], _, h, _ => by simp at h
  | c :: cs, v :: vs, [], _, h => by simp at h
  | c :: cs, v :: vs, j :: js, h1, h2 => by
    simp only [cellsL, List.length_cons]
    rw [cells_len (by simpa using h1) (by simpa using h2)]
/-- what is_row says of it -/
def Judged (K : PySem.W.Frag) (H : Hp) (y : V) (cs ks : List Str) (k : Bool) : Prop :=
  (∃ t, TyX K H y t ∧ PySem.W.kitOne K t (.type "tuple") = some false ∧ k = false) ∨
  (∃ a vs, y = .ref a ∧ H a = some (.tup vs) ∧ vs.length ≠ cs.length ∧ k = false) ∨
  (∃ a vs js, y = .ref a ∧ H a = some (.tup vs) ∧ vs.length = cs.length ∧ Paired (SaysV K H) vs js ∧ k = (cellsL ks cs vs js).all id)
/-- the place of a name -/
theorem place_of : ∀ {cs : List Str} {w : Str}, w ∈ cs → ∃ j, cs.idxOf w = j ∧ cs[j]? = some w ∧ ∀ m, m < j → cs[m]? ≠ some w
  | [], w, h => absurd h List.not_mem_nil
  | c :: cs, w, h => by
    by_cases e : c = w
    · subst e
      exact ⟨0, by simp, rfl, fun m hm => absurd hm (Nat.not_lt_zero _)⟩
    · have hw : w ∈ cs := (List.mem_cons.mp h).elim (fun z => absurd z.symm e) id
      obtain ⟨j, e1, e2, e3⟩ := place_of hw
      refine ⟨j + 1, ?_, e2, fun m hm => ?_⟩
      · rw [List.idxOf_cons, show (c == w) = false from by simpa using e, cond_false, e1]
      · cases m with
        | zero => exact fun z => e (Option.some.inj z)
        | succ m => exact e3 m (by omega)
/-- the values of a row at these columns -/
abbrev picked (cs : List Str) (vs : List V) (ws : List Str) : List V := ws.map fun w => vs.getD (cs.idxOf w) .non
theorem picked_snoc (cs : List Str) (vs : List V) (ws : List Str) (c : Str) : picked cs vs (ws ++ [c]) = picked cs vs ws ++ [vs.getD (cs.idxOf c) .non] := by
  unfold picked
  rw [List.map_append]
  rfl
theorem i_methR {C : Addr} {m : Str} {sp : Sp} {E : XK} {ta : TE} {t : TA} {σ : L2.St} {H : Hp} {Q : VK} (h : ta σ H fun x H1 => ∃ a dx fs, x = .ref a ∧ H1 a = some (.ins C dx fs) ∧ fs.lookup m = none ∧ t σ H1 fun vs H2 => sp (x :: vs) H2 Q E) : tMethR C m sp E ta t σ H Q := h
theorem lk_meth {tc tk tf tu : Addr} {r : Bool} {m : Str} (h : m = "cut" ∨ m = "is_row" ∨ m = "key_of") : (flds tc tk tf tu r).lookup m = none := by
  rcases h with rfl | rfl | rfl
  · simp only [List.lookup, show (("cut" : Str) == "columns") = false from rfl, show (("cut" : Str) == "key") = false from rfl, show (("cut" : Str) == "fixed") = false from rfl, show (("cut" : Str) == "unique") = false from rfl, show (("cut" : Str) == "reuse") = false from rfl]
  · simp only [List.lookup, show (("is_row" : Str) == "columns") = false from rfl, show (("is_row" : Str) == "key") = false from rfl, show (("is_row" : Str) == "fixed") = false from rfl, show (("is_row" : Str) == "unique") = false from rfl, show (("is_row" : Str) == "reuse") = false from rfl]
  · simp only [List.lookup, show (("key_of" : Str) == "columns") = false from rfl, show (("key_of" : Str) == "key") = false from rfl, show (("key_of" : Str) == "fixed") = false from rfl, show (("key_of" : Str) == "unique") = false from rfl, show (("key_of" : Str) == "reuse") = false from rfl]
section
variable {P : Program} {w : World} {K : PySem.W.Frag} {mg : Str → Option Value} {base : Heap} {C fI p g : Addr} {mc : Value}
abbrev s_Table_is_row : Stmt := inClass (top 29) 3
theorem sc_Table_is_row : FnScope ["self", "thing", "column", "value"] ["self", "thing"] (defScope s_Table_is_row) := ⟨rfl, rfl, rfl, by decide +kernel, rfl, by decide +kernel, by decide +kernel⟩
def sp_is_row (K : PySem.W.Frag) (C : Addr) : Sp := fun vs H Q _ => ∃ x y k, ∃ t : Tb, vs = [.ref x, y] ∧ Tab C H x t ∧ t.cs.length ≤ 100 ∧ Judged K H y t.cs t.ks k ∧ ∀ H', Same H H' → Q (.bl k) H'
theorem ok_is_row {f fV : Addr} {fd fdV : FuncData} (F : Fun K "is_row" "Table.is_row" s_Table_is_row f fd) (T : ClsT K mg C fI mc p g)
    (F_is_value : Fun K "is_value" "is_value" s_is_value fV fdV) (B_is_value : Binds K fdV ["thing"] []) (g_is_value : mg "is_value" = some (.ref fV)) (G_is_value : FnOk P w K mg base CX0 2 fV fdV ["thing"] (sp_is_value K))
    (z_isinstance : mg "isinstance" = none) (z_tuple : mg "tuple" = none) (z_len : mg "len" = none) (z_all : mg "all" = none) (z_zip : mg "zip" = none) : FnOk P w K mg base CX0 3 f fd ["self", "thing"] (sp_is_row K C) := by
  refine F.ok sc_Table_is_row (fun vs H Q E h => ?_) (fun cdv A outer s H vs Q E hr h => ?_)
  · obtain ⟨x, y, k, t, rfl, _⟩ := h
    rfl
  · obtain ⟨x, y, k, ⟨cs, ks, fs, us0, r0⟩, rfl, tb, hz, ju, q⟩ := h
    dsimp only at hz ju
    refine ⟨_, (pss_cons (ps_if (pt_not (PW.pt (pw_and (pt_val (pe_callB call_isi (by rfl) z_isinstance (by decide +kernel) (pa_cons (pv 1) (pa_cons (pe_bltn (v := .ty "tuple") (u := .type "tuple") (by rfl) z_tuple (by decide +kernel) rfl) pa_nil)))) (pw_and1 (pt_cmpR op_eq (pe_callB call_len_seq (by rfl) z_len PySem.boot_len (pa_cons (pv 1) pa_nil)) (pe_callB call_len_seq (by rfl) z_len PySem.boot_len (pa_cons (pe_fld (pv 0) rfl) pa_nil)) (nomark _))))))
 (pss_one (ps_ret pe_bl))
 pss_nil)
 (pss_one (ps_ret (pe_callB (cr_all rfl) (by rfl) z_all (by decide +kernel) (pa_cons (pe_lc (own := [("column", 2), ("value", 3)]) (g := gTup K 2 (gCons (gName 2) (gCons (gName 3) gNil))) (tt := tYes) rfl sc_Table_is_row.nd (RZ.pi_zipA (by rfl) z_zip (pa_cons (pe_fld (pv 0) rfl) (pa_cons (pv 1) pa_nil))) (blkOk_by (own := [("column", 2), ("value", 3)]) (N := ["self", "thing", "column", "value"]) (sc := defScope s_Table_is_row) (by decide +kernel)) (fun _ _ _ _ _ => pg_tup (by rfl) (pgs_cons (pg_name (i := 2) sc_Table_is_row.nd rfl (Or.inl rfl)) (pgs_cons (pg_name (i := 3) sc_Table_is_row.nd rfl (Or.inl rfl)) pgs_nil))) (fun _ _ _ _ _ => pts_nil) (fun _ _ _ _ _ => (pe_or (pe_call G_is_value (hr.mono (by decide)) rfl g_is_value F_is_value.kp B_is_value .nil pass0 (pa_cons (pv 3) pa_nil)) (pe_one (pe_and (pe_cmpR op_isN (pv 3) pe_non (nomark _)) (pe_one (pe_cmpR (op_notInK (K := K) rfl) (pv 2) (pe_fldK (K := K) rfl (pv 0) rfl) (by rfl)))))))) pa_nil))))), ?_⟩
    walk_at "rd"
    obtain ⟨dx, tc, tk, tf, tu, hx, hc, hk, hf0, hu0⟩ := tb
    dsimp only at hx hc hk hf0 hu0
    rcases ju with ⟨t, ty, kt, rfl⟩ | ⟨a, us, rfl, ha, hl, rfl⟩ | ⟨a, us, js, rfl, ha, hl, sj, rfl⟩
    · exact ⟨_, _, _, _, false, rfl, .ty "tuple", ty, kt, false, rfl, iteF (iteT (q H (Same.refl H)))⟩
    · refine ⟨_, _, _, _, true, rfl, .ty "tuple", .base (.tup ha), kit_ty (by decide +kernel), true, rfl, iteT ?_⟩
      walk_at "rd"
      refine ⟨a, us, rfl, .inr (SqT.of ha), ?_⟩
      walk_at "rd"
      refine ⟨_, rfl, x, C, dx, _, _, rfl, hx, T.cl, T.nC, lk_columns, ?_⟩
      walk_at "rd"
      refine ⟨tc, _, rfl, .inr hc.seq, ?_⟩
      refine i_rEq rfl ?_
      rw [List.length_map, decide_eq_false (fun z => hl (by have := V.int.inj z; omega))]
      exact ⟨_, rfl, iteT (q H (Same.refl H))⟩
    · have jl : us.length = js.length := Paired.length sj
      refine ⟨_, _, _, _, true, rfl, .ty "tuple", .base (.tup ha), kit_ty (by decide +kernel), true, rfl, iteT ?_⟩
      walk_at "rd"
      refine ⟨a, us, rfl, .inr (SqT.of ha), ?_⟩
      walk_at "rd"
      refine ⟨_, rfl, x, C, dx, _, _, rfl, hx, T.cl, T.nC, lk_columns, ?_⟩
      walk_at "rd"
      refine ⟨tc, _, rfl, .inr hc.seq, ?_⟩
      refine i_rEq rfl ?_
      rw [List.length_map, decide_eq_true (by rw [hl])]
      refine ⟨_, rfl, iteF ?_⟩
      walk_at "rd"
      unfold tLc
      refine i_zipA ?_
      walk_at "rd"
      refine ⟨_, rfl, x, C, dx, _, _, rfl, hx, T.cl, T.nC, lk_columns, ?_⟩
      walk_at "rd"
      refine ⟨tc, a, _, us, rfl, .inr ⟨hc.seq, SqT.of ha, fun D hD => ?_⟩⟩
      obtain ⟨H1, e1, s1, h1⟩ := new_heap (o := .lst []) hD
      refine lc_it (walk_zipT (K := K) (a := tc) (b := a) (xs := cs.map V.str) (ys := us) (n := cs.length) (List.length_map ..) hl) (fun i H' => Same H H' ∧ H' D = some (.lst (((cellsL ks cs us js).take i).map V.bl))) ⟨by rw [e1]; exact s1, by rw [e1]; exact h1⟩ ?_ ?_ ?_
      · rintro i H' _ ⟨s2, _⟩
        exact ⟨SqT.ext hc.seq s2, SqT.of (s2 _ _ ha)⟩
      · rintro i y H2 _ hi ⟨s2, h2⟩ ⟨t2, c', v, rfl, ht2, rfl, ec, ev⟩
        obtain ⟨c, ec2, rfl⟩ := str_at ec
        obtain ⟨j, ej, sv⟩ := pair_at sj ev
        have cl := cells_at (ks := ks) ec2 ev ej
        obtain ⟨H3, e3, s3, h3⟩ := new_heap (o := .tup [.str c, v]) ht2
        rw [e3]
        have s03 : Same H H3 := fun b o z => s3 _ _ (s2 _ _ z)
        refine i_gtup h3 rfl (i_gcons ?_)
        walk_at "rd"
        refine ⟨rfl, i_yes (iteT ?_)⟩
        walk_at "rd"
        have il : ((cellsL ks cs us js).take i).length ≤ 100 := by
          rw [List.length_take]
          omega
        have fin : ∀ b, b = (j || (decide (v = .non) && !decide (c ∈ ks))) → ∃ acc, H3 D = some (HO.lst acc) ∧ acc.length < sizeLine ∧ (Same H (upd H3 D (HO.lst (acc ++ [V.bl b]))) ∧ (upd H3 D (HO.lst (acc ++ [V.bl b]))) D = some (.lst (((cellsL ks cs us js).take (i + 1)).map V.bl))) := by
          intro b eb
          refine ⟨_, s3 _ _ h2, size_lt (by rw [List.length_map]; omega), Same.mut s03 hD, ?_⟩
          rw [upd_same, take_snoc cl, List.map_append, eb]
          rfl
        refine ⟨v, j, rfl, sv.up s03, j, rfl, ?_⟩
        cases j with
        | true => exact iteT (fin true rfl)
        | false =>
          refine iteF ?_
          walk_at "rd"
          refine ite_d (fun hv => ?_) (fun hv => ?_)
          · walk_at "rd"
            refine ⟨_, rfl, x, C, dx, _, _, rfl, s03 _ _ hx, T.cl, T.nK, lk_key, ?_⟩
            refine notIn_at (.inr (SqT.of (s03 _ _ hk))) ?_
            refine fin _ ?_
            rw [decide_eq_true hv]
            rfl
          · refine fin false ?_
            rw [decide_eq_false hv]
            rfl
      · rintro H2 ⟨s2, h2⟩
        rw [← cells_len (ks := ks) hl (jl.symm.trans hl), List.take_length] at h2
        walk_at "rd"
        exact ⟨D, cellsL ks cs us js, rfl, SqL.of h2, q H2 s2⟩
abbrev s_Table_cut : Stmt := inClass (top 29) 5
theorem sc_Table_cut : FnScope ["self", "row", "columns", "column"] ["self", "row", "columns"] (defScope s_Table_cut) := ⟨rfl, rfl, rfl, by decide +kernel, rfl, by decide +kernel, by decide +kernel⟩
def sp_cut (K : PySem.W.Frag) (C : Addr) : Sp := fun vs H Q _ => ∃ x r t, ∃ T : Tb, ∃ us : List V, ∃ ws : List Str, vs = [.ref x, .ref r, .ref t] ∧ Tab C H x T ∧ H r = some (.tup us) ∧ us.length = T.cs.length ∧ SqT K H t (ws.map V.str) ∧ ws.length ≤ 100 ∧ (∀ c, c ∈ ws → c ∈ T.cs) ∧
  ∀ p H', Same H H' → H' p = some (.tup (picked T.cs us ws)) → Q (.ref p) H'
theorem ok_cut {f : Addr} {fd : FuncData} (F : Fun K "cut" "Table.cut" s_Table_cut f fd) (T : ClsT K mg C fI mc p g) (z_tuple : mg "tuple" = none) : FnOk P w K mg base CX0 1 f fd ["self", "row", "columns"] (sp_cut K C) := by
  refine F.ok sc_Table_cut (fun vs H Q E h => ?_) (fun cdv A outer s H vs Q E hr h => ?_)
  · obtain ⟨x, r, t, T0, us, ws, rfl, _⟩ := h
    rfl
  · obtain ⟨x, r, t, ⟨cs, ks, fs, us0, r0⟩, us, ws, rfl, tb, hr', hl, ht, hz, sub, q⟩ := h
    dsimp only at hl sub q
    refine ⟨_, (pss_one (ps_ret (pe_callTy call_tuple_of (by rfl) z_tuple (by decide +kernel) (pa_cons (pe_lc (own := [("column", 3)]) (g := gName 3) (tt := tYes) rfl sc_Table_cut.nd (pi_tup (pv 2)) (blkOk_by (own := [("column", 3)]) (N := ["self", "row", "columns", "column"]) (sc := defScope s_Table_cut) (by decide +kernel)) (fun _ _ _ _ _ => pg_name (i := 3) sc_Table_cut.nd rfl (Or.inl rfl)) (fun _ _ _ _ _ => pts_nil) (fun _ _ _ _ _ => (pe_ix (ix_tupK (K := K) rfl) (pv 1) (pe_bmF PySem.F.plainAttrs_tuple PySem.F.slot_tuple_index PySem.F.type_tuple_index (mt_tup_indexK (K := K) rfl) (pe_fldK (K := K) rfl (pv 0) rfl) (pa_cons (pv 3) pa_nil)) (fun _ _ => rfl)))) pa_nil)))), ?_⟩
    walk_at "rd"
    obtain ⟨dx, tc, tk, tf, tu, hx, hc, hk, hf0, hu0⟩ := tb
    dsimp only at hx hc hk hf0 hu0
    unfold tLc
    walk_at "rd"
    refine ⟨t, rfl, ⟨_, ht⟩, fun D hD => ?_⟩
    obtain ⟨H1, e1, s1, h1⟩ := new_heap (o := .lst []) hD
    refine lc_tup (K := K) (a := t) (xs := ws.map V.str) (fun i H' => Same H H' ∧ H' D = some (.lst (picked cs us (ws.take i)))) ⟨by rw [e1]; exact s1, by rw [e1]; exact h1⟩ ?_ ?_ ?_
    · rintro i H' _ ⟨s2, _⟩
      exact SqT.ext ht s2
    · rintro i y H2 hy ⟨s2, h2⟩
      obtain ⟨c, ec, rfl⟩ := str_at hy
      have hi : i < ws.length := (List.getElem?_eq_some_iff.mp ec).1
      obtain ⟨j, ej, e2, e3⟩ := place_of (sub c (List.mem_of_getElem? ec))
      have hj : j < us.length := by
        rw [hl]
        exact (List.getElem?_eq_some_iff.mp e2).1
      walk_at "rd"
      refine ⟨rfl, i_yes (iteT ?_)⟩
      walk_at "rd"
      refine i_bmf ?_
      walk_at "rd"
      refine ⟨_, rfl, x, C, dx, _, _, rfl, s2 _ _ hx, T.cl, T.nC, lk_columns, ⟨tc, _, rfl, hc.up s2⟩, ?_⟩
      walk_at "rd"
      refine ⟨tc, cs, c, j, rfl, rfl, (hc.up s2).seq, e2, e3, ?_⟩
      refine i_ixT (s2 _ _ hr') (atI_nat (List.getElem?_eq_getElem hj)) ?_
      refine ⟨_, h2, size_lt (by rw [List.length_map, List.length_take]; omega), Same.mut s2 hD, ?_⟩
      rw [upd_same, take_snoc ec, picked_snoc, ej, List.getD_eq_getElem?_getD, List.getElem?_eq_getElem hj]
      all_goals rfl
    · rintro H2 ⟨s2, h2⟩
      rw [List.length_map, List.take_length] at h2
      walk_at "rd"
      refine ⟨D, _, rfl, .inl ⟨SqL.of h2, fun p hp => ?_⟩⟩
      obtain ⟨H3, e3, s3, h3⟩ := new_heap (o := .tup (picked cs us ws)) hp
      rw [e3]
      exact q p H3 (fun b o z => s3 _ _ (s2 _ _ z)) h3
/-- the methods of the class -/
structure ClsN (K : PySem.W.Frag) (C hI hK hC : Addr) : Prop where
  is_row : Meth K C "is_row" hI
  key_of : Meth K C "key_of" hK
  cut : Meth K C "cut" hC
/-- as methods are called -/
abbrev mR (K : PySem.W.Frag) (C : Addr) : Sp := fun vs H Q E => sp_is_row K C (vs ++ []) H Q E
abbrev mC (K : PySem.W.Frag) (C : Addr) : Sp := fun vs H Q E => sp_cut K C (vs ++ []) H Q E
abbrev s_Table_key_of : Stmt := inClass (top 29) 4
theorem sc_Table_key_of : FnScope ["self", "row"] ["self", "row"] (defScope s_Table_key_of) := ⟨rfl, rfl, rfl, by decide +kernel, rfl, by decide +kernel, by decide +kernel⟩
def sp_key_of (C : Addr) : Sp := fun vs H Q _ => ∃ x r, ∃ T : Tb, ∃ us : List V, vs = [.ref x, .ref r] ∧ Tab C H x T ∧ H r = some (.tup us) ∧ us.length = T.cs.length ∧ T.ks.length ≤ 100 ∧ (∀ c, c ∈ T.ks → c ∈ T.cs) ∧ ∀ p H', Same H H' → H' p = some (.tup (picked T.cs us T.ks)) → Q (.ref p) H'
abbrev mY (C : Addr) : Sp := fun vs H Q E => sp_key_of C (vs ++ []) H Q E
theorem ok_key_of {f hI hK hC : Addr} {fd : FuncData} (F : Fun K "key_of" "Table.key_of" s_Table_key_of f fd) (T : ClsT K mg C fI mc p g) (CN : ClsN K C hI hK hC) (R_cut : FnR P w K mg base CX0 1 hC (mC K C)) : FnOk P w K mg base CX0 2 f fd ["self", "row"] (sp_key_of C) := by
  refine F.ok sc_Table_key_of (fun vs H Q E h => ?_) (fun cdv A outer s H vs Q E hr h => ?_)
  · obtain ⟨x, r, T0, us, rfl, _⟩ := h
    rfl
  · obtain ⟨x, r, ⟨cs, ks, fs, us0, r0⟩, us, rfl, tb, hr', hl, hz, sub, q⟩ := h
    dsimp only at hl hz sub q
    refine ⟨_, (pss_one (ps_ret (pe_methR (pv 0) T.cl CN.cut R_cut (hr.mono (by decide)) pass0 (pa_cons (pv 1) (pa_cons (pe_fld (pv 0) rfl) pa_nil))))), ?_⟩
    walk_at "rd"
    obtain ⟨dx, tc, tk, tf, tu, hx, hc, hk, hf0, hu0⟩ := id tb
    dsimp only at hx hc hk hf0 hu0
    refine i_methR ?_
    walk_at "rd"
    refine ⟨x, dx, _, rfl, hx, lk_meth (.inl rfl), ?_⟩
    walk_at "rd"
    refine ⟨_, rfl, x, C, dx, _, _, rfl, hx, T.cl, T.nK, lk_key, ?_⟩
    walk_at "rd"
    exact ⟨x, r, tk, _, us, ks, rfl, tb, hr', hl, SqT.of hk, hz, sub, fun p' H' s1 h1 => q p' H' s1 h1⟩
end
end Spk

set_option Elab.async false
set_option linter.all false
set_option maxRecDepth 100000
set_option maxHeartbeats 2000000
namespace Spk
open PySem L2
local macro_rules | `(tactic| walk_at "rd") => `(tactic| repeat (first
  | with_reducible refine i_seq ?_ | with_reducible refine i_asg ?_ | with_reducible refine i_ret ?_ | with_reducible refine i_ifS ?_ | with_reducible refine i_if ?_
  | with_reducible refine i_for ?_ | with_reducible refine i_iL ?_ | with_reducible refine i_iT ?_ | with_reducible refine i_ckw ?_ | with_reducible refine i_cm ?_ | with_reducible refine And.intro (rfl : V.ref _ = V.ref _) ?_ | with_reducible refine i_rng1 ?_ | with_reducible refine i_bm ?_ | with_reducible refine i_bm0 ?_
  | with_reducible refine i_drop ?_ | with_reducible refine i_next ?_
  | with_reducible refine i_var rfl ?_ | with_reducible refine i_c ?_ | with_reducible refine i_op ?_ | with_reducible refine i_un ?_ | with_reducible refine i_name ?_
  | with_reducible refine i_rI0 ?_ | with_reducible refine i_rU ?_ | with_reducible refine i_rEq rfl ?_ | with_reducible refine i_rNe rfl ?_
  | with_reducible refine i_test ?_ | with_reducible refine i_tB ?_ | with_reducible refine i_and ?_ | with_reducible refine i_or ?_ | with_reducible refine i_not ?_
  | with_reducible refine i_andV ?_ | with_reducible refine i_orV ?_ | with_reducible refine i_notV ?_
  | with_reducible refine i_cons ?_ | with_reducible refine i_nil ?_ | with_reducible refine i_cb ?_ | with_reducible refine i_call ?_ | with_reducible refine i_bl ?_
  | with_reducible refine i_tup ?_ | with_reducible refine i_lst ?_ | with_reducible refine i_par ?_ | with_reducible refine i_gcons ?_ | with_reducible refine i_gnil ?_
  | with_reducible refine And.intro (rfl : V.non = V.non) ?_ | with_reducible refine i_ixT (by assumption) rfl ?_ | with_reducible refine i_ixL (by assumption) rfl ?_ | with_reducible refine i_gtup (by assumption) rfl ?_
  | with_reducible refine i_gsub ?_
  | with_reducible refine Or.inl (Exists.intro _ (And.intro (rfl : [V.int _] = [V.int _]) ?_)) | with_reducible refine Exists.intro _ (And.intro (rfl : [V.int _] = [V.int _]) ?_)
  | with_reducible refine Or.inr (Exists.intro _ (And.intro (rfl : [V.bl _] = [V.bl _]) ?_))
  | with_reducible refine Exists.intro _ (Exists.intro _ (And.intro (rfl : [V.int _, V.int _] = [V.int _, V.int _]) ?_))
  | with_reducible refine Exists.intro _ (Exists.intro _ (And.intro (rfl : [V.ref _] = [V.ref _]) (And.intro (Or.inl (SqL.of (by assumption))) ?_)))
  | with_reducible refine i_rI (show (0 : Int) < _ by assumption) ?_ | with_reducible refine i_rI (show (0 : Int) < _ by decide) ?_
  | with_reducible refine i_rI (pow_ok (Nat.le_of_ble_eq_true rfl) (Nat.le_of_ble_eq_true rfl)) ?_
  | with_reducible refine i_rI (cmulL rfl) ?_))
/-! ### what the law draws -/
def TxsOk (cs : List Str) : Prop := ∀ c, c ∈ cs → PyData.strOk c = true
theorem dps_strs {K : PySem.W.Frag} {H : Hp} : ∀ cs : List Str, DpAll K H (cs.map V.str) (cs.map PyData.str)
  | [] => .nil
  | c :: cs => .cons (.str c) (dps_strs cs)
theorem lay_strs : ∀ {cs : List Str}, TxsOk cs → PyData.canLayAll0 (cs.map PyData.str) = true
  | [], _ => by simp [PyData.canLayAll0]
  | c :: cs, h => by
    have a := h c List.mem_cons_self
    have b := lay_strs (cs := cs) fun d hd => h d (List.mem_cons_of_mem _ hd)
    simp [PyData.canLayAll0, PyData.canLay0, a, b]
theorem dep_strs : ∀ cs : List Str, PyData.depthAll (cs.map PyData.str) = 0
  | [] => by simp [PyData.depthAll]
  | c :: cs => by simp [PyData.depthAll, PyData.depth, dep_strs cs]
theorem shaped_strs {cs : List Str} (h : TxsOk cs) : SeqAt.shaped (.list (cs.map PyData.str)) = true := by
  have a := lay_strs h
  have b := dep_strs cs
  have c : (PyData.list (cs.map PyData.str)).depth ≤ 64 := by
    simp only [PyData.depth, b]
    omega
  unfold SeqAt.shaped
  rw [Bool.and_eq_true, decide_eq_true_eq]
  exact ⟨by simpa only [PyData.canLay0] using a, by omega⟩
theorem eqv_nil (cs : List Str) : PyData.eqv (.list (cs.map PyData.str)) (.list (([] : List Str).map PyData.str)) = decide (cs = []) := by
  cases cs <;> simp [PyData.eqv, PyData.eqvAll]
theorem penny_strs (cs : List Str) : penny (.lst (cs.map V.str)) = false := by
  cases cs <;> rfl
theorem Keep.mut {H0 H : Hp} {d : Addr} {o : HO} (e : Keep H0 H) (h : H0 d = none) : Keep H0 (upd H d o) := fun b u pn hb => by
  rw [upd_ne (ne_of_none hb h)]
  exact e b u pn hb
theorem pen_off {H : Hp} {p L d : Addr} {n : Nat} {o : HO} (h : Pen H p L n) (n1 : p ≠ d) (n2 : L ≠ d) : Pen (upd H d o) p L n := by
  obtain ⟨ns, a, l, h1, h2, r⟩ := h
  exact ⟨ns, a, l, by rw [upd_ne n1]; exact h1, by rw [upd_ne n2]; exact h2, r⟩
theorem pen_ne {H : Hp} {p L d : Addr} {n : Nat} (h : Pen H p L n) (hd : H d = none) : p ≠ d ∧ L ≠ d := by
  obtain ⟨ns, a, l, h1, h2, r⟩ := h
  exact ⟨ne_of_none h1 hd, ne_of_none h2 hd⟩
theorem seq_ix {n : Nat} {d : Int} (h0 : 0 ≤ d) (h1 : d < n) : seqIndex? d n = some d.toNat := by
  refine (ixN_seq (j := d.toNat) ?_).1
  unfold ixN
  rw [if_pos h0, if_pos h1]
theorem map_erase {α β : Type} (f : α → β) (xs : List α) (k : Nat) : (xs.map f).eraseIdx k = (xs.eraseIdx k).map f := by
  induction xs generalizing k with
  | nil => rfl
  | cons x xs ih =>
    cases k with
    | zero => rfl
    | succ k => simp [ih]
theorem perm_erase {α : Type} : ∀ {xs : List α} {k : Nat} (h : k < xs.length), (xs[k] :: xs.eraseIdx k).Perm xs
  | x :: xs, 0, _ => List.Perm.refl _
  | x :: xs, k + 1, h => ((List.Perm.swap x _ _).trans (List.Perm.cons x (perm_erase (xs := xs) (k := k) (by simpa using h))))
section
variable {P : Program} {w : World} {K : PySem.W.Frag} {mg : Str → Option Value} {base : Heap}
abbrev s_some : Stmt := top 42
theorem sc_some : FnScope ["_law_pen_here", "_law_names", "_law_most", "_law_left", "_law_found", "_law_turn"] ["_law_pen_here", "_law_names", "_law_most"] (defScope s_some) := ⟨rfl, rfl, rfl, by decide +kernel, rfl, by decide +kernel, by decide +kernel⟩
def sp_some : Sp := fun vs H Q _ => ∃ p L n l, ∃ cs : List Str, ∃ m : Int, vs = [.ref p, .ref l, .int m] ∧ Pen H p L n ∧ n ≤ 9900 ∧ H l = some (.lst (cs.map V.str)) ∧ cs.length ≤ 8 ∧ cs.Nodup ∧ TxsOk cs ∧ 0 < m ∧ m ≤ 8 ∧
  ∀ t H' ks, Keep H H' → Pen H' p L (n + 1 + m.toNat) → H' t = some (.tup (ks.map V.str)) → ks.Nodup → (∀ c, c ∈ ks → c ∈ cs) → ks.length ≤ m.toNat → (cs ≠ [] → ks ≠ []) → Q (.ref t) H'
structure SoInv (H0 : Hp) (p L l a b : Addr) (n : Nat) (m : Int) (cs : List Str) (i : Nat) (σ : L2.St) (H : Hp) : Prop where
  ex : ∃ (ls ks : List Str) (x : Option V), σ = [some (.ref p), some (.ref l), some (.int m), some (.ref a), some (.ref b), x] ∧ Keep H0 H ∧ Pen H p L (n + 1 + i) ∧ H a = some (.lst (ls.map V.str)) ∧ H b = some (.lst (ks.map V.str)) ∧ (ks ++ ls).Nodup ∧
    (∀ c, c ∈ ks ++ ls → c ∈ cs) ∧ ks.length ≤ i ∧ (cs ≠ [] → 0 < i → ks ≠ []) ∧ (ks = [] → ls = cs) ∧ ls.length ≤ 8
theorem ok_some {f fD : Addr} {fd fdD : FuncData} (F : Fun K "_law_some" "_law_some" s_some f fd)
    (F_draw : Fun K "_law_draw" "_law_draw" s_draw fD fdD) (B_draw : Binds K fdD ["_law_pen_here", "_law_many"] []) (g_draw : mg "_law_draw" = some (.ref fD)) (G_draw : FnOk P w K mg base CX0 1 fD fdD ["_law_pen_here", "_law_many"] sp_draw)
    (z_list : mg "list" = none) (z_len : mg "len" = none) (z_range : mg "range" = none) (z_tuple : mg "tuple" = none) : FnOk P w K mg base CX0 2 f fd ["_law_pen_here", "_law_names", "_law_most"] sp_some := by
  refine F.ok sc_some (fun vs H Q E h => ?_) (fun cdv A outer s H vs Q E hr h => ?_)
  · obtain ⟨p, L, n, l, cs, m, rfl, _⟩ := h
    rfl
  · obtain ⟨p, L, n, l, cs, m, rfl, hp, hn, hl, hz, nd, tx, m0, m8, q⟩ := h
    refine ⟨_, (pss_cons (ps_set (i := 3) sc_some.nd rfl (Or.inl rfl) (pe_callTy call_list_of (by rfl) z_list (by decide +kernel) (pa_cons (pv 1) pa_nil)))
 (pss_cons (ps_set (i := 4) sc_some.nd rfl (Or.inl rfl) (pe_lst pa_nil))
 (pss_cons (ps_for PassesOwn.never rfl (pi_range1 (by rfl) z_range (pa_cons (pe_op op_add pe_int (pe_call G_draw (hr.mono (by decide)) rfl g_draw F_draw.kp B_draw .nil pass0 (pa_cons (pv 0) (pa_cons (pv 2) pa_nil)))) pa_nil)) (pg_name (i := 5) sc_some.nd rfl (Or.inl rfl))
 (pss_one (ps_if (pt_cmpR (op_neD hr.units) (pv 3) (pe_lst pa_nil) (nomark _))
 (pss_one (ps_expr (pe_bm PySem.F.plainAttrs_list PySem.F.slot_list_append PySem.F.type_list_append mt_append (pv 4) (pa_cons (pe_bm PySem.F.plainAttrs_list PySem.F.slot_list_pop PySem.F.type_list_pop mt_popAt (pv 3) (pa_cons (pe_call G_draw (hr.mono (by decide)) rfl g_draw F_draw.kp B_draw .nil pass0 (pa_cons (pv 0) (pa_cons (pe_callB call_len_seq (by rfl) z_len PySem.boot_len (pa_cons (pv 3) pa_nil)) pa_nil))) pa_nil)) pa_nil))))
 pss_nil)))
 (pss_one (ps_ret (pe_callTy call_tuple_of (by rfl) z_tuple (by decide +kernel) (pa_cons (pv 4) pa_nil))))))), ?_⟩
    walk_at "rd"
    intro a ha
    obtain ⟨H1, e1, s1, h1⟩ := new_heap (o := .lst (cs.map V.str)) ha
    rw [e1]
    walk_at "rd"
    refine ⟨Nat.zero_le _, fun b hb => ?_⟩
    obtain ⟨H2, e2, s2, h2⟩ := new_heap (o := .lst []) hb
    rw [e2]
    walk_at "rd"
    have hp1 := hp.up s1
    have p2 := hp1.up s2
    have ab : a ≠ b := ne_of_none h1 hb
    obtain ⟨pa, La⟩ := pen_ne hp ha
    obtain ⟨pb, Lb⟩ := pen_ne hp1 hb
    have hb0 : H b = none := by
      cases hh : H b with
      | none => rfl
      | some o => exact absurd (s1 _ _ hh) (by rw [hb]; exact fun z => nomatch z)
    refine ⟨p, L, n, m, rfl, p2, by omega, m0, by omega, fun d H3 d0 d1 k3 p3 => ?_⟩
    walk_at "rd"
    have k03 : Keep H H3 := (Same.keep (fun c o z => s2 _ _ (s1 _ _ z))).trans k3
    refine ⟨by omega, by omega, for_range (lo := 0) (n := (1 + d).toNat) (SoInv H p L l a b n m cs) ⟨cs, [], _, rfl, k03, p3.mono (by omega), k3 _ _ (penny_strs cs) (s2 _ _ h1), k3 _ _ rfl h2, by simpa using nd, fun c hc => by simpa using hc, Nat.le_refl _, fun _ h0 => absurd h0 (Nat.lt_irrefl 0), fun _ => rfl, hz⟩ ?_ ?_⟩
    · rintro i σ H4 hi ⟨ls, ks, x5, rfl, k4, p4, ha4, hb4, nd4, sub4, kz4, ne4, ls4, lz⟩
      have im : (i : Int) < m := by omega
      have lsub : ∀ c, c ∈ ls → c ∈ cs := fun c hc => sub4 c (List.mem_append_right _ hc)
      walk_at "rd"
      refine ⟨Nat.zero_le _, fun y hy => ?_⟩
      obtain ⟨H5, e5, s5, h5⟩ := new_heap (o := .lst []) hy
      rw [e5]
      have ha5 := s5 _ _ ha4
      have hb5 := s5 _ _ hb4
      have p5 := p4.up s5
      have k5 : Keep H H5 := k4.trans (Same.keep s5)
      refine ⟨.list (ls.map PyData.str), .list (([] : List Str).map PyData.str), .lst (SqL.of ha5) (dps_strs ls), .lst (SqL.of h5) .nil, shaped_strs (fun c hc => tx c (lsub c hc)), shaped_strs (fun c hc => absurd hc List.not_mem_nil), ?_⟩
      rw [eqv_nil]
      refine ⟨_, rfl, ite_nd (fun hne => ?_) (fun he => ?_)⟩
      · have lpos : 0 < ls.length := List.length_pos_iff.mpr hne
        walk_at "rd"
        refine i_tyL hb5 ?_
        walk_at "rd"
        refine i_tyL ha5 ?_
        walk_at "rd"
        rw [List.length_map]
        refine ⟨p, L, _, _, rfl, p5, by omega, by omega, by omega, fun g H6 g0 g1 k6 p6 => ?_⟩
        walk_at "rd"
        have ha6 := k6 _ _ (penny_strs _) ha5
        have hb6 := k6 _ _ (penny_strs _) hb5
        have gl : g.toNat < ls.length := by omega
        refine ⟨a, _, g, g.toNat, .str ls[g.toNat], rfl, rfl, ha6, by omega, by omega, seq_ix g0 (by rw [List.length_map]; omega), by rw [List.getElem?_map, List.getElem?_eq_getElem gl]; rfl, ?_⟩
        rw [map_erase]
        have hb7 : upd H6 a (.lst ((ls.eraseIdx g.toNat).map V.str)) b = some (.lst (ks.map V.str)) := by rw [upd_ne ab.symm]; exact hb6
        walk_at "rd"
        refine i_app hb7 (by rw [List.length_map]; omega) ?_
        have pm := perm_erase gl
        have pm2 : ((ks ++ [ls[g.toNat]]) ++ ls.eraseIdx g.toNat).Perm (ks ++ ls) := by
          rw [List.append_assoc]
          exact List.Perm.append_left ks pm
        refine ⟨ls.eraseIdx g.toNat, ks ++ [ls[g.toNat]], _, rfl, (((k5.trans k6).mut ha).mut hb0), (pen_off (pen_off p6 pa La) pb Lb).mono (by omega), ?_, ?_, pm2.nodup_iff.mpr nd4, fun c hc => sub4 c (pm2.mem_iff.mp hc), by rw [List.length_append]; simp; omega, fun _ _ => by simp, fun z => by simp at z, by rw [List.length_eraseIdx, if_pos gl]; omega⟩
        · rw [upd_ne ab, upd_same]
        · rw [upd_same, List.map_append]
          rfl
      · refine ⟨ls, ks, _, rfl, k5, p5.mono (by omega), ha5, hb5, nd4, sub4, by omega, fun hc _ z => hc ((ls4 z).symm.trans he), ls4, lz⟩
    · rintro σ H4 ⟨ls, ks, x5, rfl, k4, p4, ha4, hb4, nd4, sub4, kz4, ne4, ls4, lz⟩
      walk_at "rd"
      refine ⟨b, _, rfl, .inl ⟨SqL.of hb4, fun t ht => ?_⟩⟩
      obtain ⟨H5, e5, s5, h5⟩ := new_heap (o := .tup (ks.map V.str)) ht
      rw [e5]
      exact q t H5 ks (k4.trans (Same.keep s5)) ((p4.up s5).mono (by omega)) h5 (List.nodup_append.mp nd4).1 (fun c hc => sub4 c (List.mem_append_left _ hc)) (by omega) (fun hc => ne4 hc (by omega))
end
end Spk

set_option Elab.async false
set_option linter.all false
set_option maxRecDepth 100000
set_option maxHeartbeats 4000000
namespace Spk
open PySem L2
local macro_rules | `(tactic| walk_at "rd") => `(tactic| repeat (first
  | with_reducible refine i_seq ?_ | with_reducible refine i_asg ?_ | with_reducible refine i_ret ?_ | with_reducible refine i_ifS ?_ | with_reducible refine i_if ?_
  | with_reducible refine i_for ?_ | with_reducible refine i_iL ?_ | with_reducible refine i_iT ?_ | with_reducible refine i_ckw ?_ | with_reducible refine i_cm ?_ | with_reducible refine And.intro (rfl : V.ref _ = V.ref _) ?_ | with_reducible refine i_rng1 ?_ | with_reducible refine i_bm ?_ | with_reducible refine i_bm0 ?_
  | with_reducible refine i_drop ?_ | with_reducible refine i_next ?_
  | with_reducible refine i_var rfl ?_ | with_reducible refine i_c ?_ | with_reducible refine i_op ?_ | with_reducible refine i_un ?_ | with_reducible refine i_name ?_
  | with_reducible refine i_rI0 ?_ | with_reducible refine i_rU ?_ | with_reducible refine i_rEq rfl ?_ | with_reducible refine i_rNe rfl ?_
  | with_reducible refine i_test ?_ | with_reducible refine i_tB ?_ | with_reducible refine i_and ?_ | with_reducible refine i_or ?_ | with_reducible refine i_not ?_
  | with_reducible refine i_andV ?_ | with_reducible refine i_orV ?_ | with_reducible refine i_notV ?_
  | with_reducible refine i_cons ?_ | with_reducible refine i_nil ?_ | with_reducible refine i_cb ?_ | with_reducible refine i_call ?_ | with_reducible refine i_bl ?_
  | with_reducible refine i_tup ?_ | with_reducible refine i_lst ?_ | with_reducible refine i_par ?_ | with_reducible refine i_gcons ?_ | with_reducible refine i_gnil ?_
  | with_reducible refine And.intro (rfl : V.non = V.non) ?_ | with_reducible refine i_ixT (by assumption) rfl ?_ | with_reducible refine i_ixL (by assumption) rfl ?_ | with_reducible refine i_gtup (by assumption) rfl ?_
  | with_reducible refine i_gsub ?_
  | with_reducible refine Or.inl (Exists.intro _ (And.intro (rfl : [V.int _] = [V.int _]) ?_)) | with_reducible refine Exists.intro _ (And.intro (rfl : [V.int _] = [V.int _]) ?_)
  | with_reducible refine Or.inr (Exists.intro _ (And.intro (rfl : [V.bl _] = [V.bl _]) ?_))
  | with_reducible refine Exists.intro _ (Exists.intro _ (And.intro (rfl : [V.int _, V.int _] = [V.int _, V.int _]) ?_))
  | with_reducible refine Exists.intro _ (Exists.intro _ (And.intro (rfl : [V.ref _] = [V.ref _]) (And.intro (Or.inl (SqL.of (by assumption))) ?_)))
  | with_reducible refine i_rI (show (0 : Int) < _ by assumption) ?_ | with_reducible refine i_rI (show (0 : Int) < _ by decide) ?_
  | with_reducible refine i_rI (pow_ok (Nat.le_of_ble_eq_true rfl) (Nat.le_of_ble_eq_true rfl)) ?_
  | with_reducible refine i_rI (cmulL rfl) ?_))
def Good (v : V) (k : Bool) : Prop := (∃ m : Int, v = .int m ∧ absI m < big) ∨ (v = .non ∧ k = false)
def Plain (v : V) : Prop := (∃ m : Int, v = .int m) ∨ v = .non
theorem other_non {K : PySem.W.Frag} {H : Hp} : Other K H .non := ⟨.type "NoneType", .base .non, .inl (kit_ty (by decide +kernel))⟩
/-! ### rows of values -/
def dV : V → PyData
  | .int i => .int i
  | _ => .none
theorem dps_plain {K : PySem.W.Frag} {H : Hp} : ∀ {us : List V}, (∀ v, v ∈ us → Plain v) → DpAll K H us (us.map dV)
  | [], _ => .nil
  | v :: us, h => by
    have t := dps_plain (K := K) (H := H) (us := us) fun u hu => h u (List.mem_cons_of_mem _ hu)
    rcases h v List.mem_cons_self with ⟨m, rfl⟩ | rfl
    · exact .cons (.int m) t
    · exact .cons .non t
theorem lay_plain : ∀ us : List V, PyData.canLayAll0 (us.map dV) = true
  | [] => by simp [PyData.canLayAll0]
  | v :: us => by
    have t := lay_plain us
    have e : (dV v).canLay0 = true := by cases v <;> simp [dV, PyData.canLay0]
    simp [PyData.canLayAll0, e, t]
theorem dep_plain : ∀ us : List V, PyData.depthAll (us.map dV) ≤ 1
  | [] => by simp [PyData.depthAll]
  | v :: us => by
    have t := dep_plain us
    have e : (dV v).depth ≤ 1 := by cases v <;> simp [dV, PyData.depth]
    simp only [List.map_cons, PyData.depthAll]
    omega
theorem shaped_plain (us : List V) : SeqAt.shaped (.tuple (us.map dV)) = true := by
  have a := lay_plain us
  have b := dep_plain us
  have c : (PyData.tuple (us.map dV)).depth ≤ 64 := by
    simp only [PyData.depth]
    omega
  unfold SeqAt.shaped
  rw [Bool.and_eq_true, decide_eq_true_eq]
  exact ⟨by simpa only [PyData.canLay0] using a, by omega⟩
theorem ne_same {K : PySem.W.Frag} {H : Hp} {a b : Addr} {us : List V} {Q : VK} (ha : H a = some (.tup us)) (hb : H b = some (.tup us)) (pl : ∀ v, v ∈ us → Plain v) (q : Q (.bl false) H) : rNeD K (.ref a) (.ref b) H Q := by
  refine ⟨.tuple (us.map dV), .tuple (us.map dV), .tup (SqT.of ha) (dps_plain pl), .tup (SqT.of hb) (dps_plain pl), shaped_plain us, shaped_plain us, ?_⟩
  rw [SeqAt.eqv_refl _ (by simpa only [PyData.canLay0] using lay_plain us)]
  exact q
theorem penny_plain {us : List V} (h : ∀ v, v ∈ us → Plain v) : penny (.lst us) = false := by
  cases us with
  | nil => rfl
  | cons v us =>
    rcases h v List.mem_cons_self with ⟨m, rfl⟩ | rfl
    · cases us <;> rfl
    · cases us <;> rfl
/-- a row for these columns -/
abbrev RowOk (ks cs : List Str) (us : List V) : Prop := Paired (fun v c => Good v (decide (c ∈ ks))) us cs
theorem good_plain {v : V} {k : Bool} (h : Good v k) : Plain v := h.elim (fun ⟨m, e, _⟩ => .inl ⟨m, e⟩) fun ⟨e, _⟩ => .inr e
theorem row_plain {ks : List Str} : ∀ {us : List V} {cs : List Str}, RowOk ks cs us → ∀ v, v ∈ us → Plain v
  | _, _, .nil, v, h => absurd h List.not_mem_nil
  | _, _, .cons r t, v, h => (List.mem_cons.mp h).elim (fun e => e ▸ good_plain r) fun z => row_plain t v z
theorem row_says {K : PySem.W.Frag} {H : Hp} {ks : List Str} : ∀ {us : List V} {cs : List Str}, RowOk ks cs us → ∃ js, Paired (SaysV K H) us js ∧ (cellsL ks cs us js).all id = true
  | _, _, .nil => ⟨[], .nil, rfl⟩
  | v :: us, c :: cs, .cons r t => by
    obtain ⟨js, sj, al⟩ := row_says (K := K) (H := H) t
    rcases r with ⟨m, rfl, hm⟩ | ⟨rfl, hk⟩
    · refine ⟨true :: js, .cons (.inl ⟨m, rfl, (decide_eq_true hm).symm⟩) sj, ?_⟩
      simp only [cellsL, List.all_cons, al, Bool.true_or, id_eq, Bool.and_self]
    · refine ⟨false :: js, .cons (.inr ⟨other_non, rfl⟩) sj, ?_⟩
      simp only [cellsL, List.all_cons, al, hk, id_eq]
      simp
/-- the values of the key columns -/
def duesL (ks : List Str) : List Str → List V → List V
  | c :: cs, v :: vs => if c ∈ ks then v :: duesL ks cs vs else duesL ks cs vs
  | _, _ => []
theorem dues_snoc {ks : List Str} {c : Str} {v : V} : ∀ {cs : List Str} {vs : List V}, cs.length = vs.length → duesL ks (cs ++ [c]) (vs ++ [v]) = duesL ks cs vs ++ (if c ∈ ks then [v] else [])
  | [], [], _ => by simp [duesL]
  | a :: cs, b :: vs, h => by
    have := dues_snoc (ks := ks) (c := c) (v := v) (cs := cs) (vs := vs) (by simpa using h)
    simp only [List.cons_append, duesL, this]
    split <;> simp
  | [], _ :: _, h => by simp at h
  | _ :: _, [], h => by simp at h
theorem dues_len {ks : List Str} : ∀ (cs : List Str) (vs : List V), (duesL ks cs vs).length ≤ cs.length
  | [], _ => by simp [duesL]
  | _ :: _, [] => by simp [duesL]
  | c :: cs, v :: vs => by
    have := dues_len (ks := ks) cs vs
    simp only [duesL]
    split <;> simp only [List.length_cons] <;> omega
theorem dues_map {ks : List Str} (f : Str → V) : ∀ cs : List Str, duesL ks cs (cs.map f) = (among cs ks).map f
  | [] => rfl
  | c :: cs => by
    have := dues_map (ks := ks) f cs
    unfold among at this ⊢
    simp only [List.map_cons, duesL, this, List.filter_cons, decide_eq_true_eq]
    split <;> simp
theorem picked_all {cs : List Str} {us : List V} (nd : cs.Nodup) (hl : us.length = cs.length) : picked cs us cs = us := by
  refine List.ext_getElem (by rw [List.length_map]; exact hl.symm) fun i h1 h2 => ?_
  have hi : i < cs.length := by omega
  obtain ⟨j, ej, e2, e3⟩ := place_of (List.getElem_mem hi)
  have hj : j < cs.length := (List.getElem?_eq_some_iff.mp e2).1
  have e : j = i := by
    rw [← List.getElem?_eq_getElem hi] at e2
    exact (List.getElem?_inj hj nd).mp e2
  rw [List.getElem_map, ej, e, List.getD_eq_getElem?_getD, List.getElem?_eq_getElem h2]
  rfl
theorem dues_picked {ks cs : List Str} {us : List V} (nd : cs.Nodup) (hl : us.length = cs.length) : duesL ks cs us = picked cs us (among cs ks) := by
  have e := dues_map (ks := ks) (fun w => us.getD (cs.idxOf w) V.non) cs
  have e2 : cs.map (fun w => us.getD (cs.idxOf w) V.non) = us := picked_all nd hl
  rw [e2] at e
  exact e
theorem picked_plain {cs : List Str} {us : List V} {ws : List Str} (h : ∀ v, v ∈ us → Plain v) : ∀ v, v ∈ picked cs us ws → Plain v := by
  intro v hv
  obtain ⟨w, _, rfl⟩ := List.mem_map.mp hv
  rw [List.getD_eq_getElem?_getD]
  cases e : us[cs.idxOf w]? with
  | none => exact .inr rfl
  | some u => exact h u (List.mem_of_getElem? e)
/-! ### the law's words -/
def words : List Str := ["k", "r", "u", "key", "in", "a", "b", "once"]
theorem words_nd : words.Nodup := by decide
theorem words_ok : ∀ c, c ∈ words → nameB c = true ∧ c.length ≤ 100 ∧ PyData.strOk c = true := by decide +kernel
theorem Tab.keep {C : Addr} {H H' : Hp} {x : Addr} {t : Tb} (e : Keep H H') (h : Tab C H x t) : Tab C H' x t := by
  obtain ⟨dx, tc, tk, tf, tu, h1, ⟨o, h2, r⟩, h3, h4, h5⟩ := h
  exact ⟨dx, tc, tk, tf, tu, e _ _ rfl h1, ⟨o, e _ _ rfl h2, r⟩, e _ _ rfl h3, e _ _ rfl h4, e _ _ rfl h5⟩
theorem eqv_str (a b : Str) : PyData.eqv (.str a) (.str b) = decide (a = b) := by
  simp only [PyData.eqv]
  rw [Bool.eq_iff_iff]
  simp
end Spk

set_option Elab.async false
set_option linter.all false
set_option maxRecDepth 100000
set_option maxHeartbeats 1000000
namespace Spk.Fi
open PySem L2 Spk
local macro_rules | `(tactic| walk_at "rd") => `(tactic| repeat (first
  | with_reducible refine i_seq ?_ | with_reducible refine i_asg ?_ | with_reducible refine i_ret ?_ | with_reducible refine i_ifS ?_ | with_reducible refine i_if ?_
  | with_reducible refine i_for ?_ | with_reducible refine i_iL ?_ | with_reducible refine i_iT ?_ | with_reducible refine i_ckw ?_ | with_reducible refine i_cm ?_ | with_reducible refine And.intro (rfl : V.ref _ = V.ref _) ?_ | with_reducible refine i_rng1 ?_ | with_reducible refine i_bm ?_ | with_reducible refine i_bm0 ?_
  | with_reducible refine i_drop ?_ | with_reducible refine i_next ?_
  | with_reducible refine i_var rfl ?_ | with_reducible refine i_c ?_ | with_reducible refine i_op ?_ | with_reducible refine i_un ?_ | with_reducible refine i_name ?_
  | with_reducible refine i_rI0 ?_ | with_reducible refine i_rU ?_ | with_reducible refine i_rEq rfl ?_ | with_reducible refine i_rNe rfl ?_
  | with_reducible refine i_test ?_ | with_reducible refine i_tB ?_ | with_reducible refine i_and ?_ | with_reducible refine i_or ?_ | with_reducible refine i_not ?_
  | with_reducible refine i_andV ?_ | with_reducible refine i_orV ?_ | with_reducible refine i_notV ?_
  | with_reducible refine i_cons ?_ | with_reducible refine i_nil ?_ | with_reducible refine i_cb ?_ | with_reducible refine i_call ?_ | with_reducible refine i_bl ?_
  | with_reducible refine i_tup ?_ | with_reducible refine i_lst ?_ | with_reducible refine i_par ?_ | with_reducible refine i_gcons ?_ | with_reducible refine i_gnil ?_
  | with_reducible refine And.intro (rfl : V.non = V.non) ?_ | with_reducible refine i_ixT (by assumption) rfl ?_ | with_reducible refine i_ixL (by assumption) rfl ?_ | with_reducible refine i_gtup (by assumption) rfl ?_
  | with_reducible refine i_gsub ?_
  | with_reducible refine Or.inl (Exists.intro _ (And.intro (rfl : [V.int _] = [V.int _]) ?_)) | with_reducible refine Exists.intro _ (And.intro (rfl : [V.int _] = [V.int _]) ?_)
  | with_reducible refine Or.inr (Exists.intro _ (And.intro (rfl : [V.bl _] = [V.bl _]) ?_))
  | with_reducible refine Exists.intro _ (Exists.intro _ (And.intro (rfl : [V.int _, V.int _] = [V.int _, V.int _]) ?_))
  | with_reducible refine Exists.intro _ (Exists.intro _ (And.intro (rfl : [V.ref _] = [V.ref _]) (And.intro (Or.inl (SqL.of (by assumption))) ?_)))
  | with_reducible refine i_rI (show (0 : Int) < _ by assumption) ?_ | with_reducible refine i_rI (show (0 : Int) < _ by decide) ?_
  | with_reducible refine i_rI (pow_ok (Nat.le_of_ble_eq_true rfl) (Nat.le_of_ble_eq_true rfl)) ?_
  | with_reducible refine i_rI (cmulL rfl) ?_))
/-- the parts of a set stand at t -/
def PartsT (H : Hp) (t : Addr) (ps : List Stc) : Prop := ∃ vs, H t = some (.tup vs) ∧ Tups H vs ps
theorem PartsT.up {H H' : Hp} {t : Addr} {ps : List Stc} (e : Same H H') (h : PartsT H t ps) : PartsT H' t ps := by
  obtain ⟨vs, h, z⟩ := h
  exact ⟨vs, e _ _ h, z.up e⟩
theorem ov_non {o : Option Int} (h : ov o = .non) : o = none := by
  cases o with
  | none => rfl
  | some i => cases h
theorem ov_some {o : Option Int} (h : ¬ ov o = .non) : ∃ i, o = some i := by
  cases o with
  | none => exact absurd rfl h
  | some i => exact ⟨i, rfl⟩

section
variable {P : Program} {w : World} {K : PySem.W.Frag} {mg : Str → Option Value} {base : Heap}
/-! ### start_of, touches, later_end -/
abbrev s_start_of : Stmt := top 7
theorem sc_start_of : FnScope ["stretch", "low"] ["stretch"] (defScope s_start_of) := ⟨rfl, rfl, rfl, by decide +kernel, rfl, by decide +kernel, by decide +kernel⟩
def sp_start_of : Sp := fun vs H Q _ => ∃ (v : V) (s : Stc), vs = [v] ∧ TupS H v s ∧ ∀ p H', Same H H' → H' p = some (.tup (key s)) → Q (.ref p) H'
theorem ok_start_of {f : Addr} {fd : FuncData} (F : Fun K "start_of" "start_of" s_start_of f fd) : FnOk P w K mg base CX0 1 f fd ["stretch"] sp_start_of := by
  refine F.ok sc_start_of (fun vs H Q E h => ?_) (fun cdv A outer s H vs Q E hr h => ?_)
  · obtain ⟨v, s, rfl, _⟩ := h
    rfl
  · obtain ⟨v, ⟨lo, hi⟩, rfl, ⟨a, rfl, ha⟩, q⟩ := h
    refine ⟨_, (pss_cons (ps_set (i := 1) sc_start_of.nd rfl (Or.inl rfl) (pe_ix ix_tup (pv 0) pe_int (fun _ _ => rfl)))
 (pss_one (ps_ret (pe_ifExp (pt_cmpR op_isN (pv 1) pe_non (nomark _)) (pe_tup (pa_cons pe_int (pa_cons pe_int pa_nil))) (pe_tup (pa_cons pe_int (pa_cons (pv 1) pa_nil))))))), ?_⟩
    walk_at "rd"
    refine ite_d (fun h => ?_) (fun h => ?_)
    · walk_at "rd"
      have e := ov_non h
      dsimp only at e
      subst e
      exact i_sz (Nat.le_of_ble_eq_true rfl) fun p H1 s1 _ e => q p H1 s1 e
    · obtain ⟨i, rfl⟩ := ov_some h
      walk_at "rd"
      exact i_sz (Nat.le_of_ble_eq_true rfl) fun p H1 s1 _ e => q p H1 s1 e
abbrev s_touches : Stmt := top 9
theorem sc_touches : FnScope ["part", "low", "high"] ["part", "low"] (defScope s_touches) := ⟨rfl, rfl, rfl, by decide +kernel, rfl, by decide +kernel, by decide +kernel⟩
def sp_touches : Sp := fun vs H Q _ => ∃ (v : V) (s : Stc) (lo : Option Int), vs = [v, ov lo] ∧ TupS H v s ∧ Q (.bl (touchB s.2 lo)) H
theorem ok_touches {f : Addr} {fd : FuncData} (F : Fun K "touches" "touches" s_touches f fd) : FnOk P w K mg base CX0 1 f fd ["part", "low"] sp_touches := by
  refine F.ok sc_touches (fun vs H Q E h => ?_) (fun cdv A outer s H vs Q E hr h => ?_)
  · obtain ⟨v, s, lo, rfl, _⟩ := h
    rfl
  · obtain ⟨v, ⟨lo, hi⟩, l, rfl, ⟨a, rfl, ha⟩, q⟩ := h
    refine ⟨_, (pss_cons (ps_set (i := 2) sc_touches.nd rfl (Or.inl rfl) (pe_ix ix_tup (pv 0) pe_int (fun _ _ => rfl)))
 (pss_one (ps_ret (pe_or (pe_cmpR op_isN (pv 1) pe_non (nomark _)) (pe_or (pe_cmpR op_isN (pv 2) pe_non (nomark _)) (pe_one (pe_cmpR op_le (pv 1) (pe_op op_add (pv 2) pe_int) (nomark _)))))))), ?_⟩
    walk_at "rd"
    refine ite_d (fun h => ?_) (fun h => ?_)
    · have e := ov_non h
      subst e
      exact q
    · obtain ⟨i, rfl⟩ := ov_some h
      walk_at "rd"
      refine ite_d (fun h => ?_) (fun h => ?_)
      · have e := ov_non h
        subst e
        exact q
      · obtain ⟨j, rfl⟩ := ov_some h
        walk_at "rd"
        exact q
abbrev s_later_end : Stmt := top 10
theorem sc_later_end : FnScope ["one", "other"] ["one", "other"] (defScope s_later_end) := ⟨rfl, rfl, rfl, by decide +kernel, rfl, by decide +kernel, by decide +kernel⟩
def sp_later_end : Sp := fun vs H Q _ => ∃ (a b : Option Int), vs = [ov a, ov b] ∧ Q (ov (laterE a b)) H
theorem ok_later_end {f : Addr} {fd : FuncData} (F : Fun K "later_end" "later_end" s_later_end f fd) (z_max : mg "max" = none) : FnOk P w K mg base CX0 1 f fd ["one", "other"] sp_later_end := by
  refine F.ok sc_later_end (fun vs H Q E h => ?_) (fun cdv A outer s H vs Q E hr h => ?_)
  · obtain ⟨a, b, rfl, _⟩ := h
    rfl
  · obtain ⟨a, b, rfl, q⟩ := h
    refine ⟨_, (pss_cons (ps_if (PW.pt (pw_or (pt_cmpR op_isN (pv 0) pe_non (nomark _)) (pw_or1 (pt_cmpR op_isN (pv 1) pe_non (nomark _)))))
 (pss_one (ps_ret pe_non))
 pss_nil)
 (pss_one (ps_ret (pe_callB (call_max2 rfl) (by rfl) z_max (by decide +kernel) (pa_cons (pv 0) (pa_cons (pv 1) pa_nil)))))), ?_⟩
    walk_at "rd"
    refine ite_d (fun h => ?_) (fun h => ?_)
    · have e := ov_non h
      subst e
      refine iteT ?_
      walk_at "rd"
      exact q
    · obtain ⟨i, rfl⟩ := ov_some h
      walk_at "rd"
      refine ite_d (fun h => ?_) (fun h => ?_)
      · have e := ov_non h
        subst e
        walk_at "rd"
        exact q
      · obtain ⟨j, rfl⟩ := ov_some h
        walk_at "rd"
        exact q
/-! ### in_parts -/
theorem tups_get {H : Hp} {vs : List V} {ps : List Stc} (h : Tups H vs ps) {i : Nat} (hi : i < ps.length) : ∃ v, vs[i]? = some v ∧ TupS H v ps[i] := by
  induction h generalizing i with
  | nil => simp at hi
  | cons r t ih =>
    cases i with
    | zero => exact ⟨_, rfl, r⟩
    | succ i => exact ih (by simpa using hi)
theorem tups_len {H : Hp} {vs : List V} {ps : List Stc} (h : Tups H vs ps) : vs.length = ps.length := Paired.length h
structure SInv (t : Addr) (n : Int) (ps : List Stc) (H0 : Hp) (m : Nat) (σ : L2.St) (H : Hp) : Prop where
  ex : ∃ (a b : Nat) (x y z : Option V), m = b - a ∧ a ≤ b ∧ b ≤ ps.length ∧ H = H0 ∧ σ = [some (.ref t), some (.int n), some (.int a), some (.int b), x, y, z] ∧
    (∀ (j : Nat) s, j < a → ps[j]? = some s → has1 s n = false) ∧ (∀ (j : Nat) s, b ≤ j → ps[j]? = some s → has1 s n = false)
abbrev s_in_parts : Stmt := top 12
theorem sc_in_parts : FnScope ["parts", "number", "start", "end", "middle", "low", "high"] ["parts", "number"] (defScope s_in_parts) := ⟨rfl, rfl, rfl, by decide +kernel, rfl, by decide +kernel, by decide +kernel⟩
def sp_in_parts : Sp := fun vs H Q _ => ∃ (t : Addr) (ps : List Stc) (n : Int), vs = [.ref t, .int n] ∧ PartsT H t ps ∧ Canon ps ∧ Q (.bl (hasL ps n)) H
theorem ok_in_parts {f : Addr} {fd : FuncData} (F : Fun K "in_parts" "in_parts" s_in_parts f fd) (z_len : mg "len" = none) : FnOk P w K mg base CX0 1 f fd ["parts", "number"] sp_in_parts := by
  refine F.ok sc_in_parts (fun vs H Q E h => ?_) (fun cdv A outer s H vs Q E hr h => ?_)
  · obtain ⟨t, ps, n, rfl, _⟩ := h
    rfl
  · obtain ⟨t, ps, n, rfl, ⟨vs, ht, tu⟩, hc, q⟩ := h
    refine ⟨_, (pss_cons (ps_set (i := 2) sc_in_parts.nd rfl (Or.inl rfl) pe_int)
 (pss_cons (ps_set (i := 3) sc_in_parts.nd rfl (Or.inl rfl) (pe_callB call_len_seq (by rfl) z_len PySem.boot_len (pa_cons (pv 0) pa_nil)))
 (pss_cons (ps_while PassesOwn.never (pt_cmpR op_lt (pv 2) (pv 3) (nomark _))
 (pss_cons (ps_set (i := 4) sc_in_parts.nd rfl (Or.inl rfl) (pe_op op_fdivW (pe_op op_add (pv 2) (pv 3)) pe_int))
 (pss_cons (ps_asg (pe_ix ix_tup (pv 0) (pv 4) (fun _ _ => rfl)) (pg_tup (by rfl) (pgs_cons (pg_name (i := 5) sc_in_parts.nd rfl (Or.inl rfl)) (pgs_cons (pg_name (i := 6) sc_in_parts.nd rfl (Or.inl rfl)) pgs_nil))))
 (pss_one (ps_if (PW.pt (pw_and (pt_cmpR op_notN (pv 5) pe_non (nomark _)) (pw_and1 (pt_cmpR op_lt (pv 1) (pv 5) (nomark _)))))
 (pss_one (ps_set (i := 3) sc_in_parts.nd rfl (Or.inl rfl) (pv 4)))
 (pss_one (ps_if (PW.pt (pw_and (pt_cmpR op_notN (pv 6) pe_non (nomark _)) (pw_and1 (pt_cmpR op_gt (pv 1) (pv 6) (nomark _)))))
 (pss_one (ps_set (i := 2) sc_in_parts.nd rfl (Or.inl rfl) (pe_op op_add (pv 4) pe_int)))
 (pss_one (ps_ret pe_bl)))))))))
 (pss_one (ps_ret pe_bl))))), ?_⟩
    walk_at "rd"
    refine ⟨t, vs, rfl, .inr (SqT.of ht), ?_⟩
    walk_at "rd"
    have hlen := tups_len tu
    refine ⟨SInv t n ps H, ⟨vs.length, ⟨0, vs.length, none, none, none, rfl, Nat.zero_le _, Nat.le_of_eq hlen, rfl, rfl, fun j s h => absurd h (Nat.not_lt_zero _), fun j s h e => ?_⟩⟩, ?_⟩
    · rw [List.getElem?_eq_none (by omega)] at e
      cases e
    rintro m σ H' ⟨⟨a, b, x, y, z, em, hab, hb, eH, rfl, lo, hi⟩⟩
    subst H'
    walk_at "rd"
    refine ite_d (fun h => ?_) (fun h => ?_)
    · refine ⟨fun σ' H' => ∃ m', m' < m ∧ SInv t n ps H m' σ' H', fun _ _ h => h, ?_⟩
      walk_at "rd"
      refine i_rI (wide_div (b := 2) (by decide) (by decide) (by decide) (by decide)) ?_
      walk_at "rd"
      have e2 : (((a : Int) + (b : Int)) / 2) = (((a + b) / 2 : Nat) : Int) := by omega
      have hm : (a + b) / 2 < ps.length := by omega
      obtain ⟨v, hv, c, rfl, hcc⟩ := tups_get tu hm
      rw [e2]
      refine i_ixT ht (atI_nat hv) ?_
      walk_at "rd"
      generalize hs : ps[(a + b) / 2] = s at hcc
      have hs' : ps[(a + b) / 2]? = some s := by rw [List.getElem?_eq_getElem hm, hs]
      obtain ⟨l, r⟩ := s
      dsimp only at hcc ⊢
      -- the number lies ahead of this part, behind it, or in it
      have goL : ∀ (k : Int) (x y z : Option V), l = some k → n < k → ∃ m', m' < m ∧ SInv t n ps H m' [some (.ref t), some (.int n), some (.int a), some (.int ((a + b) / 2 : Nat)), x, y, z] H := fun k x y z hk hn =>
        ⟨(a + b) / 2 - a, by omega, ⟨a, (a + b) / 2, x, y, z, rfl, by omega, by omega, rfl, rfl, lo, fun j s hj e => search_low hc hs' hk hn hj e⟩⟩
      have goR : ∀ (k : Int) (x y z : Option V), r = some k → k < n → ∃ m', m' < m ∧ SInv t n ps H m' [some (.ref t), some (.int n), some (.int ((a + b) / 2 + 1 : Nat)), some (.int b), x, y, z] H := fun k x y z hk hn =>
        ⟨b - ((a + b) / 2 + 1), by omega, ⟨(a + b) / 2 + 1, b, x, y, z, rfl, by omega, hb, rfl, rfl, fun j s hj e => search_high hc hs' hk hn (by omega) e, hi⟩⟩
      have found : has1 (l, r) n = true → Q (.bl true) H := fun hh => by
        have e : hasL ps n = true := List.any_eq_true.mpr ⟨_, List.mem_of_getElem? hs', hh⟩
        rw [e] at q
        exact q
      have rest : (∀ k, l = some k → k ≤ n) → tIfS
            (tAnd (tTest (tOp (fun x y H Q => y = V.non ∧ Q (V.bl !decide (x = V.non)) H) (tVar 6) (tC V.non)))
              (tTest (tOp (rI0 fun i j => V.bl (decide (j < i))) (tVar 1) (tVar 6))))
            (tAsg (tOp (rI0 fun i j => V.int (i + j)) (tVar 4) (tC (V.int 1))) (gName 2)) (tRet (tC (V.bl true)))
            { nx := fun σ' H' => ∃ m', m' < m ∧ SInv t n ps H m' σ' H', rt := Q, bk := fun σ H => Q (.bl false) H, ct := fun σ' H' => ∃ m', m' < m ∧ SInv t n ps H m' σ' H' }
            [some (.ref t), some (.int n), some (.int a), some (.int b), some (.int ((a + b) / 2 : Nat)), some (ov l), some (ov r)] H := by
        intro hl
        walk_at "rd"
        cases r with
        | none =>
          refine ite_nd (fun h => absurd rfl h) (fun _ => ?_)
          refine iteF ?_
          walk_at "rd"
          exact found (has1_of hl fun k hk => nomatch hk)
        | some k =>
          refine ite_nd (fun _ => ?_) (fun h => nomatch h)
          walk_at "rd"
          refine ite_d (fun h => ?_) (fun h => ?_)
          · walk_at "rd"
            exact goR k _ _ _ rfl h
          · walk_at "rd"
            exact found (has1_of hl fun j hj => by cases hj; omega)
      cases l with
      | none =>
        refine ite_nd (fun h => absurd rfl h) (fun _ => ?_)
        refine iteF ?_
        exact rest (fun k hk => nomatch hk)
      | some k =>
        refine ite_nd (fun _ => ?_) (fun h => nomatch h)
        walk_at "rd"
        refine ite_d (fun h => ?_) (fun h => ?_)
        · walk_at "rd"
          exact goL k _ _ _ rfl h
        · exact rest (fun j hj => by cases hj; omega)
    · walk_at "rd"
      have e : hasL ps n = false := by
        unfold hasL
        rw [List.any_eq_false]
        intro s hs
        obtain ⟨j, hj⟩ := List.mem_iff_getElem?.mp hs
        rcases Nat.lt_or_ge j a with q1 | q1
        · rw [lo j s q1 hj]; simp
        · rw [hi j s (by omega) hj]; simp
      rw [e] at q
      exact q

/-! ### joined -/
theorem dp_key {H : Hp} {p : Addr} {s : Stc} (h : H p = some (.tup (key s))) : Dp K H (.ref p) (keyD s) := .tup (SqT.of h) (.cons (.int _) (.cons (.int _) .nil))
abbrev s_joined : Stmt := top 8
theorem sc_joined : FnScope ["stretches", "parts", "low", "high", "first", "last"] ["stretches"] (defScope s_joined) := ⟨rfl, rfl, rfl, by decide +kernel, rfl, by decide +kernel, by decide +kernel⟩
def sp_joined (K : PySem.W.Frag) : Sp := fun vs H Q _ => ∃ (l : Addr) (xs : List V) (ss : List Stc), vs = [.ref l] ∧ (SqL K H l xs ∨ SqT K H l xs) ∧ Tups H xs ss ∧ ss.length ≤ 1000 ∧ (∀ s, s ∈ ss → NE s) ∧
  ∀ p H' ps, Same H H' → PartsT H' p ps → Canon ps → (∀ n, hasL ps n = hasL ss n) → ps.length ≤ ss.length → Q (.ref p) H'
/-- what holds between two turns: the list at d holds the joined stretches so far -/
structure JInv (H0 : Hp) (a p d : Addr) (L : List V) (ss : List Stc) (i : Nat) (σ : L2.St) (H : Hp) : Prop where
  ex : ∃ (acc : List Stc) (vs : List V) (x y z w : Option V), σ = [some (.ref a), some (.ref d), x, y, z, w] ∧ Same H0 H ∧ H p = some (.lst L) ∧ H d = some (.lst vs) ∧ Tups H vs acc ∧ Joins acc (ss.take i) (ss.drop i) ∧ acc.length ≤ i
theorem joinF_len (acc : List Stc) (s : Stc) : (joinF acc s).length ≤ acc.length + 1 := by
  unfold joinF
  cases h : acc.getLast? with
  | none => simp
  | some p =>
    dsimp only
    split
    · simp
    · simp
theorem _root_.Spk.Tups.mut {H : Hp} {d : Addr} {ys zs : List V} {vs : List V} {ss : List Stc} (h : Tups H vs ss) (hd : H d = some (.lst ys)) : Tups (upd H d (.lst zs)) vs ss :=
  Paired.mapP h fun v s ⟨a, e, ha⟩ => ⟨a, e, by rw [upd_ne (ne_of ha hd (by intro z; cases z))]; exact ha⟩
theorem tups_snoc {H : Hp} {vs : List V} {ss : List Stc} {v : V} {s : Stc} (h : Tups H vs ss) (hv : TupS H v s) : Tups H (vs ++ [v]) (ss ++ [s]) := by
  induction h with
  | nil => exact .cons hv .nil
  | cons r t ih => exact .cons r ih
theorem tups_concat {H : Hp} {s : Stc} : ∀ {ss : List Stc} {vs : List V}, Tups H vs (ss ++ [s]) → ∃ vs' v, vs = vs' ++ [v] ∧ Tups H vs' ss ∧ TupS H v s
  | [], _, .cons r .nil => ⟨[], _, rfl, .nil, r⟩
  | a :: ss, _, .cons r t => by
    obtain ⟨vs', v, e, t', hv⟩ := tups_concat (ss := ss) t
    subst e
    exact ⟨_ :: vs', v, rfl, .cons r t', hv⟩
theorem ok_joined {f fS fT fE : Addr} {fd fdS fdT fdE : FuncData} (F : Fun K "joined" "joined" s_joined f fd) (FS : Fun K "start_of" "start_of" s_start_of fS fdS) (B_start_of : Binds K fdS ["stretch"] []) (g_start_of : mg "start_of" = some (.ref fS))
    (F_touches : Fun K "touches" "touches" s_touches fT fdT) (B_touches : Binds K fdT ["part", "low"] []) (g_touches : mg "touches" = some (.ref fT))
    (F_later_end : Fun K "later_end" "later_end" s_later_end fE fdE) (B_later_end : Binds K fdE ["one", "other"] []) (g_later_end : mg "later_end" = some (.ref fE))
    (z_max : mg "max" = none) (z_sorted : mg "sorted" = none) (z_tuple : mg "tuple" = none) : FnOk P w K mg base CX0 4 f fd ["stretches"] (sp_joined K) := by
  have GS : FnOk P w K mg base CX0 1 fS fdS ["stretch"] sp_start_of := ok_start_of FS
  have RS := FnOk.raw GS B_start_of .nil
  have G_touches : FnOk P w K mg base CX0 1 fT fdT ["part", "low"] sp_touches := ok_touches F_touches
  have G_later_end : FnOk P w K mg base CX0 1 fE fdE ["one", "other"] sp_later_end := ok_later_end F_later_end z_max
  refine F.ok sc_joined (fun vs H Q E h => ?_) (fun cdv A outer s H vs Q E hr h => ?_)
  · obtain ⟨l, xs, ss, rfl, _⟩ := h
    rfl
  · obtain ⟨l, xs, ss, rfl, hl, tu, hz, hne, q⟩ := h
    refine ⟨_, (pss_cons (ps_set (i := 1) sc_joined.nd rfl (Or.inl rfl) (pe_lst pa_nil))
 (pss_cons (ps_for PassesOwn.never rfl (pi_list (pe_callBK (cr_sortKey RS (hr.mono (by decide))) (by rfl) z_sorted (by decide +kernel) (pa_cons (pv 0) pa_nil) (pk_cons (pe_glob rfl g_start_of (relR _)) pk_nil))) (pg_tup (by rfl) (pgs_cons (pg_name (i := 2) sc_joined.nd rfl (Or.inl rfl)) (pgs_cons (pg_name (i := 3) sc_joined.nd rfl (Or.inl rfl)) pgs_nil)))
 (pss_one (ps_if (PW.pt (pw_and (pt_truth (pv 1) (by intro _; rfl)) (pw_and1 (pt_val (pe_call G_touches (hr.mono (by decide)) rfl g_touches F_touches.kp B_touches .nil pass0 (pa_cons (pe_ix ix_list (pv 1) (pe_un un_neg pe_int) (fun _ _ => rfl)) (pa_cons (pv 2) pa_nil)))))))
 (pss_cons (ps_asg (pe_bm0 PySem.F.plainAttrs_list PySem.F.slot_list_pop PySem.F.type_list_pop mt_pop (pv 1)) (pg_tup (by rfl) (pgs_cons (pg_name (i := 4) sc_joined.nd rfl (Or.inl rfl)) (pgs_cons (pg_name (i := 5) sc_joined.nd rfl (Or.inl rfl)) pgs_nil))))
 (pss_one (ps_expr (pe_bm PySem.F.plainAttrs_list PySem.F.slot_list_append PySem.F.type_list_append mt_append (pv 1) (pa_cons (pe_tup (pa_cons (pv 4) (pa_cons (pe_call G_later_end (hr.mono (by decide)) rfl g_later_end F_later_end.kp B_later_end .nil pass0 (pa_cons (pv 5) (pa_cons (pv 3) pa_nil))) pa_nil))) pa_nil)))))
 (pss_one (ps_expr (pe_bm PySem.F.plainAttrs_list PySem.F.slot_list_append PySem.F.type_list_append mt_append (pv 1) (pa_cons (pe_tup (pa_cons (pv 2) (pa_cons (pv 3) pa_nil))) pa_nil)))))))
 (pss_one (ps_ret (pe_callTy call_tuple_of (by rfl) z_tuple (by decide +kernel) (pa_cons (pv 1) pa_nil)))))), ?_⟩
    walk_at "rd"
    refine ⟨Nat.zero_le _, fun d hd0 => ?_⟩
    obtain ⟨H1, e1, s1, hd⟩ := new_heap (o := .lst []) hd0
    rw [e1]
    walk_at "rd"
    have hl1 : SqL K H1 l xs ∨ SqT K H1 l xs := hl.elim (fun z => .inl (SqL.ext z s1)) fun z => .inr (SqT.ext z s1)
    have tu1 := tu.up s1
    have hlen := tups_len tu
    refine ⟨l, xs, ss.map keyD, rfl, rfl, hl1, by rw [List.length_map]; exact hlen.symm, keys_alike ss, keys_sort ss, keys_deep ss, fun i x d hx hk H' sm => ?_, fun H2 p sm hp => ?_⟩
    · have hi : i < ss.length := by
        have := (List.getElem?_eq_some_iff.mp hk).1
        simpa using this
      obtain ⟨v, hv, ts⟩ := tups_get tu1 hi
      rw [hx] at hv
      cases hv
      have hd : d = keyD ss[i] := by
        rw [List.getElem?_map, List.getElem?_eq_getElem hi] at hk
        exact (Option.some.inj hk).symm
      subst hd
      exact ⟨x, ss[i], rfl, ts.up sm, fun p H'' s2 e => ⟨s2, dp_key e⟩⟩
    obtain ⟨ss', tu', pm, pw⟩ := sorted_low tu
    obtain ⟨H3, e3, s3, hp3⟩ := new_heap (o := .lst (byKeys xs (ss.map keyD))) hp
    rw [e3]
    have s13 : Same H1 H3 := fun b o z => s3 _ _ (sm _ _ z)
    have s03 : Same H H3 := fun b o z => s13 _ _ (s1 _ _ z)
    have hdp : d ≠ p := ne_of_none (sm _ _ hd) hp
    have hl3 := tups_len tu'
    have hle : ss'.length = ss.length := pm.length_eq
    have hne' : ∀ s, s ∈ ss' → NE s := fun s hs => hne s (pm.mem_iff.mp hs)
    generalize hL : byKeys xs (ss.map keyD) = L at *
    refine ⟨p, rfl, ⟨_, SqL.of hp3⟩, for_list (K := K) (a := p) (xs := L) (JInv H l p d L ss') ⟨[], [], none, none, none, none, rfl, s03, hp3, s13 _ _ hd, .nil, ⟨⟨fun s hs => (by simp at hs), .nil⟩, fun n => rfl, fun a ha => (by simp at ha)⟩, Nat.le_refl _⟩ ?_ ?_ ?_⟩
    · rintro i σ H' _ ⟨acc, vs, x, y, z, w, _, _, hp4, _⟩
      exact SqL.of hp4
    · rintro i x σ H' hx ⟨acc, vs, x1, y1, z1, w1, rfl, sm4, hp4, hd4, ta, jn, hai⟩
      have hi : i < ss'.length := by
        have := (List.getElem?_eq_some_iff.mp hx).1
        omega
      obtain ⟨v, hv, c, rfl, hc⟩ := tups_get tu' hi
      rw [hx] at hv
      cases hv
      have hc4 := sm4 _ _ hc
      have jn' : Joins (joinF acc ss'[i]) (ss'.take (i + 1)) (ss'.drop (i + 1)) := by
        rw [List.drop_eq_getElem_cons hi] at jn
        rw [List.take_succ_eq_append_getElem hi]
        refine joins_step jn (hne' _ (List.getElem_mem hi)) ?_
        rw [← List.drop_eq_getElem_cons hi]
        exact pw.drop
      have hjl := joinF_len acc ss'[i]
      generalize hs : ss'[i] = s at *
      obtain ⟨lo, hi'⟩ := s
      dsimp only at hc4
      -- what the turn leaves
      have fin : ∀ (vs' : List V) (H5 : Hp) (x y z w : Option V), Same H H5 → H5 p = some (.lst L) → H5 d = some (.lst vs') → Tups H5 vs' (joinF acc (lo, hi')) → JInv H l p d L ss' (i + 1) [some (.ref l), some (.ref d), x, y, z, w] H5 :=
        fun vs' H5 x y z w a1 a2 a3 a4 => ⟨_, vs', x, y, z, w, rfl, a1, a2, a3, a4, jn', by omega⟩
      have hva := tups_len ta
      -- the appending of a tuple
      have app : ∀ (ws : List V) (ac : List Stc) (u v : Option Int) (H5 : Hp), Same H H5 → H5 p = some (.lst L) → H5 d = some (.lst ws) → Tups H5 ws ac → ac ++ [(u, v)] = joinF acc (lo, hi') → ∀ q, H5 q = none →
          ∀ R : VK, (∀ H6, (∀ x y z w, JInv H l p d L ss' (i + 1) [some (.ref l), some (.ref d), x, y, z, w] H6) → R .non H6) → rAppend (.ref d) [.ref q] (upd H5 q (.tup [ov u, ov v])) R := by
        intro ws ac u v H5 a1 a2 a3 a4 e q hq R hR
        obtain ⟨H6, e6, s6, hq6⟩ := new_heap (o := .tup [ov u, ov v]) hq
        rw [e6]
        have hw : ws.length ≤ 100000 := by
          have h1 := tups_len a4
          have h2 := congrArg List.length e
          simp only [List.length_append, List.length_singleton] at h2
          omega
        refine i_app (s6 _ _ a3) hw (hR _ fun x y z w => fin (ws ++ [.ref q]) _ x y z w ?_ ?_ upd_same ?_)
        · exact Same.mut (fun b o z => s6 _ _ (a1 _ _ z)) hd0
        · rw [upd_ne hdp.symm]
          exact s6 _ _ a2
        · rw [← e]
          exact Tups.mut (tups_snoc (a4.up s6) ⟨q, rfl, hq6⟩) (s6 _ _ a3)
      walk_at "rd"
      refine ⟨!vs.isEmpty, .inl ⟨vs, SqL.of hd4, rfl⟩, ?_⟩
      rcases List.eq_nil_or_concat acc with rfl | ⟨ac, p', rfl⟩
      · have ev : vs = [] := List.length_eq_zero_iff.mp (by simpa using hva)
        subst ev
        refine iteF (iteF ?_)
        walk_at "rd"
        refine i_tyL hd4 ?_
        walk_at "rd"
        refine ⟨size_of (Nat.le_of_ble_eq_true rfl), fun q hq => ?_⟩
        walk_at "rd"
        refine app [] [] lo hi' H' sm4 hp4 hd4 ta rfl q hq _ ?_
        exact fun H6 h => h _ _ _ _
      · simp only [List.concat_eq_append] at *
        obtain ⟨vs', v, rfl, ta', tp⟩ := tups_concat ta
        have hne : (!(vs' ++ [v]).isEmpty) = true := by simp
        rw [hne]
        refine iteT ?_
        walk_at "rd"
        refine i_ixL hd4 (atI_last _ _) ?_
        walk_at "rd"
        refine ⟨v, p', lo, rfl, tp, ?_⟩
        walk_at "rd"
        have ejn : joinF (ac ++ [p']) (lo, hi') = if touchB p'.2 lo = true then ac ++ [(p'.1, laterE p'.2 hi')] else ac ++ [p'] ++ [(lo, hi')] := by
          unfold joinF
          rw [List.getLast?_concat]
          simp only [List.dropLast_concat]
        by_cases ht : touchB p'.2 lo = true
        · rw [ht]
          refine iteT ?_
          rw [if_pos ht] at ejn
          walk_at "rd"
          refine i_tyL hd4 (i_pop hd4 ?_)
          obtain ⟨c', rfl, hc'⟩ := tp
          have hcd : c' ≠ d := ne_of hc' hd4 (by intro z; cases z)
          have hc5 : upd H' d (.lst vs') c' = some (.tup [ov p'.1, ov p'.2]) := by rw [upd_ne hcd]; exact hc'
          walk_at "rd"
          refine i_tyL upd_same ?_
          walk_at "rd"
          refine ⟨p'.2, hi', rfl, ?_⟩
          walk_at "rd"
          refine ⟨size_of (Nat.le_of_ble_eq_true rfl), fun q hq => ?_⟩
          walk_at "rd"
          refine app vs' ac p'.1 (laterE p'.2 hi') _ (Same.mut sm4 hd0) (by rw [upd_ne hdp.symm]; exact hp4) upd_same (ta'.mut hd4) ejn.symm q hq _ ?_
          exact fun H6 h => h _ _ _ _
        · have ht' : touchB p'.2 lo = false := by simpa using ht
          rw [ht']
          refine iteF ?_
          rw [if_neg ht] at ejn
          walk_at "rd"
          refine i_tyL hd4 ?_
          walk_at "rd"
          refine ⟨size_of (Nat.le_of_ble_eq_true rfl), fun q hq => ?_⟩
          walk_at "rd"
          refine app _ _ lo hi' H' sm4 hp4 hd4 ta ejn.symm q hq _ ?_
          exact fun H6 h => h _ _ _ _
    · rintro σ H' ⟨acc, vs, x1, y1, z1, w1, rfl, sm4, hp4, hd4, ta, jn, hai⟩
      walk_at "rd"
      rw [hl3, List.take_length, List.drop_length] at jn
      refine ⟨d, vs, rfl, .inl ⟨SqL.of hd4, fun p6 hp6 => ?_⟩⟩
      obtain ⟨H6, e6, s6, h6⟩ := new_heap (o := .tup vs) hp6
      rw [e6]
      refine q p6 H6 acc (fun b o z => s6 _ _ (sm4 _ _ z)) ⟨vs, h6, ta.up s6⟩ jn.canon (fun n => ?_) (by omega)
      rw [jn.has n]
      exact Bool.eq_iff_iff.mpr (by simp only [hasL, List.any_eq_true]; exact ⟨fun ⟨s, hs, e⟩ => ⟨s, pm.mem_iff.mp hs, e⟩, fun ⟨s, hs, e⟩ => ⟨s, pm.mem_iff.mpr hs, e⟩⟩)
end
end Spk.Fi

set_option Elab.async false
set_option linter.all false
set_option maxRecDepth 100000
set_option maxHeartbeats 1000000
namespace Spk.Fi
open PySem L2 Spk
local macro_rules | `(tactic| walk_at "rd") => `(tactic| repeat (first
  | with_reducible refine i_seq ?_ | with_reducible refine i_asg ?_ | with_reducible refine i_ret ?_ | with_reducible refine i_ifS ?_ | with_reducible refine i_if ?_
  | with_reducible refine i_for ?_ | with_reducible refine i_iL ?_ | with_reducible refine i_iT ?_ | with_reducible refine i_ckw ?_ | with_reducible refine i_cm ?_ | with_reducible refine And.intro (rfl : V.ref _ = V.ref _) ?_ | with_reducible refine i_rng1 ?_ | with_reducible refine i_bm ?_ | with_reducible refine i_bm0 ?_
  | with_reducible refine i_drop ?_ | with_reducible refine i_next ?_
  | with_reducible refine i_var rfl ?_ | with_reducible refine i_c ?_ | with_reducible refine i_op ?_ | with_reducible refine i_un ?_ | with_reducible refine i_name ?_
  | with_reducible refine i_rI0 ?_ | with_reducible refine i_rU ?_ | with_reducible refine i_rEq rfl ?_ | with_reducible refine i_rNe rfl ?_
  | with_reducible refine i_test ?_ | with_reducible refine i_tB ?_ | with_reducible refine i_and ?_ | with_reducible refine i_or ?_ | with_reducible refine i_not ?_
  | with_reducible refine i_andV ?_ | with_reducible refine i_orV ?_ | with_reducible refine i_notV ?_
  | with_reducible refine i_cons ?_ | with_reducible refine i_nil ?_ | with_reducible refine i_cb ?_ | with_reducible refine i_call ?_ | with_reducible refine i_bl ?_
  | with_reducible refine i_tup ?_ | with_reducible refine i_lst ?_ | with_reducible refine i_par ?_ | with_reducible refine i_gcons ?_ | with_reducible refine i_gnil ?_
  | with_reducible refine And.intro (rfl : V.non = V.non) ?_ | with_reducible refine i_ixT (by assumption) rfl ?_ | with_reducible refine i_ixL (by assumption) rfl ?_ | with_reducible refine i_gtup (by assumption) rfl ?_
  | with_reducible refine i_gsub ?_
  | with_reducible refine Or.inl (Exists.intro _ (And.intro (rfl : [V.int _] = [V.int _]) ?_)) | with_reducible refine Exists.intro _ (And.intro (rfl : [V.int _] = [V.int _]) ?_)
  | with_reducible refine Or.inr (Exists.intro _ (And.intro (rfl : [V.bl _] = [V.bl _]) ?_))
  | with_reducible refine Exists.intro _ (Exists.intro _ (And.intro (rfl : [V.int _, V.int _] = [V.int _, V.int _]) ?_))
  | with_reducible refine Exists.intro _ (Exists.intro _ (And.intro (rfl : [V.ref _] = [V.ref _]) (And.intro (Or.inl (SqL.of (by assumption))) ?_)))
  | with_reducible refine i_rI (show (0 : Int) < _ by assumption) ?_ | with_reducible refine i_rI (show (0 : Int) < _ by decide) ?_
  | with_reducible refine i_rI (pow_ok (Nat.le_of_ble_eq_true rfl) (Nat.le_of_ble_eq_true rfl)) ?_
  | with_reducible refine i_rI (cmulL rfl) ?_))
/-! ### the class Ranges -/
def Rng (C : Addr) (H : Hp) (r : Addr) (ps : List Stc) : Prop := ∃ dx t, H r = some (.ins C dx [("parts", .ref t)]) ∧ PartsT H t ps ∧ Canon ps
theorem Rng.up {C : Addr} {H H' : Hp} {r : Addr} {ps : List Stc} (e : Same H H') (h : Rng C H r ps) : Rng C H' r ps := by
  obtain ⟨dx, t, a, b, c⟩ := h
  exact ⟨dx, t, e _ _ a, b.up e, c⟩
theorem Rng.canon {C : Addr} {H : Hp} {r : Addr} {ps : List Stc} (h : Rng C H r ps) : Canon ps := let ⟨_, _, _, _, c⟩ := h; c
/-- parts as data -/
def oD : Option Int → PyData
  | none => .none
  | some i => .int i
def stD (s : Stc) : PyData := .tuple [oD s.1, oD s.2]
def psD (ps : List Stc) : PyData := .tuple (ps.map stD)
theorem dp_ov {K : PySem.W.Frag} {H : Hp} (o : Option Int) : Dp K H (ov o) (oD o) := by
  cases o with
  | none => exact .non
  | some i => exact .int i
theorem dps_tups {K : PySem.W.Frag} {H : Hp} {vs : List V} {ps : List Stc} (h : Tups H vs ps) : DpAll K H vs (ps.map stD) := by
  induction h with
  | nil => exact .nil
  | cons r t ih =>
    obtain ⟨a, rfl, ha⟩ := r
    exact .cons (.tup (SqT.of ha) (.cons (dp_ov _) (.cons (dp_ov _) .nil))) ih
theorem dp_parts {K : PySem.W.Frag} {H : Hp} {t : Addr} {ps : List Stc} (h : PartsT H t ps) : Dp K H (.ref t) (psD ps) := by
  obtain ⟨vs, h, tu⟩ := h
  exact .tup (SqT.of h) (dps_tups tu)
theorem eqv_oD (a b : Option Int) : PyData.eqv (oD a) (oD b) = decide (a = b) := by
  cases a <;> cases b <;> simp [oD, PyData.eqv]
  rw [Bool.eq_iff_iff]
  simp
theorem eqv_stD (a b : Stc) : PyData.eqv (stD a) (stD b) = decide (a = b) := by
  obtain ⟨l, r⟩ := a
  obtain ⟨l', r'⟩ := b
  simp only [stD, PyData.eqv, PyData.eqvAll, eqv_oD, Bool.and_true, Prod.mk.injEq]
  rw [Bool.eq_iff_iff]
  simp
theorem eqvAll_ps : ∀ ps qs : List Stc, PyData.eqvAll (ps.map stD) (qs.map stD) = decide (ps = qs)
  | [], [] => by simp [PyData.eqvAll]
  | [], _ :: _ => by simp [PyData.eqvAll]
  | _ :: _, [] => by simp [PyData.eqvAll]
  | a :: ps, b :: qs => by
    simp only [List.map_cons, PyData.eqvAll, eqv_stD, eqvAll_ps ps qs, List.cons.injEq]
    rw [Bool.eq_iff_iff]
    simp
theorem eqv_psD (ps qs : List Stc) : PyData.eqv (psD ps) (psD qs) = decide (ps = qs) := by
  simp only [psD, PyData.eqv]
  exact eqvAll_ps ps qs
theorem lay_oD (o : Option Int) : (oD o).canLay0 = true := by cases o <;> simp [oD, PyData.canLay0]
theorem lay_stD (s : Stc) : (stD s).canLay0 = true := by simp [stD, PyData.canLay0, PyData.canLayAll0, lay_oD]
theorem lay_ps : ∀ ps : List Stc, PyData.canLayAll0 (ps.map stD) = true
  | [] => by simp [PyData.canLayAll0]
  | a :: ps => by simp [PyData.canLayAll0, lay_stD, lay_ps ps]
theorem dep_oD (o : Option Int) : (oD o).depth = 0 := by cases o <;> simp [oD, PyData.depth]
theorem dep_ps : ∀ ps : List Stc, PyData.depthAll (ps.map stD) ≤ 2
  | [] => by simp [PyData.depthAll]
  | a :: ps => by
    have := dep_ps ps
    simp only [List.map_cons, PyData.depthAll, stD, PyData.depth, dep_oD]
    omega
theorem shaped_ps (ps : List Stc) : SeqAt.shaped (psD ps) = true := by
  have h1 := lay_ps ps
  have h2 := dep_ps ps
  simp only [SeqAt.shaped, psD, PyData.canLay0, h1, PyData.depth, Bool.true_and, decide_eq_true_eq]
  omega

/-- what the text says of the class -/
structure ClsT (K : PySem.W.Frag) (mg : Str → Option Value) (C fI fE : Addr) : Prop where
  cl : Cls K C
  nP : NoAttr K C "parts"
  M : Mk K C fI
  g_C : mg "Ranges" = some (.ref C)
  self : PySem.W.selfFirst K C = true
  eq : OwnEq K C fE
  cls : PySem.W.findIn K (.ref C) "__class__" = some (some (.builtin "object.__class__"))
  get : PySem.W.specialIn K (.builtin "object.__class__") "__get__" = some (some (.builtin "getset_descriptor.__get__"))
  tk : PySem.W.takesIn K (.builtin "object.__class__") = some true
  mro : PySem.W.mroIn K C (.type "object") = some true
  kit : PySem.W.kitOne K (.ref C) (.ref C) = some true
  kn : PySem.W.kitOne K (.type "NoneType") (.ref C) = some false
  kb : PySem.W.kitOne K (.type "bool") (.ref C) = some false
  ki : PySem.W.kitOne K (.type "int") (.ref C) = some false
  ks : PySem.W.kitOne K (.type "str") (.ref C) = some false
  kl : PySem.W.kitOne K (.type "list") (.ref C) = some false
  kt : PySem.W.kitOne K (.type "tuple") (.ref C) = some false
section
variable {P : Program} {w : World} {K : PySem.W.Frag} {mg : Str → Option Value} {base : Heap} {C fI fE : Addr}
theorem Rng.ty {H : Hp} {r : Addr} {ps : List Stc} (T : ClsT K mg C fI fE) (h : Rng C H r ps) : TyX K H (.ref r) (.ref C) := by
  obtain ⟨dx, t, a, _⟩ := h
  exact .base (.ins a T.cl T.cls T.get T.tk T.mro)
theorem ClsT.odd {H : Hp} {y : V} {X : String} (T : ClsT K mg C fI fE) (o : Odd H y X) : PySem.W.kitOne K (.type X) (.ref C) = some false := by
  cases o with
  | non => exact T.kn
  | bl b => exact T.kb
  | int i => exact T.ki
  | str x => exact T.ks
  | lst h => exact T.kl
  | tup h => exact T.kt
abbrev s_Ranges__init : Stmt := inClass (top 6) 0
theorem sc_Ranges__init : FnScope ["self", "parts"] ["self", "parts"] (defScope s_Ranges__init) := ⟨rfl, rfl, rfl, by decide +kernel, rfl, by decide +kernel, by decide +kernel⟩
def sp_init (C : Addr) : Sp := fun vs H Q _ => ∃ x dx t, vs = [.ref x, .ref t] ∧ H x = some (.ins C dx []) ∧ Q .non (upd H x (.ins C dx [("parts", .ref t)]))
theorem ok_init {fd : FuncData} (F : Fun K "__init__" "Ranges.__init__" s_Ranges__init fI fd) (T : ClsT K mg C fI fE) : FnOk P w K mg base CX0 1 fI fd ["self", "parts"] (sp_init C) := by
  refine F.ok sc_Ranges__init (fun vs H Q E h => ?_) (fun cdv A outer s H vs Q E hr h => ?_)
  · obtain ⟨x, dx, t, rfl, _⟩ := h
    rfl
  · obtain ⟨x, dx, t, rfl, hx, q⟩ := h
    refine ⟨_, (pss_one (ps_fld (pv 0) (pv 1) rfl)), ?_⟩
    exact ⟨_, rfl, _, rfl, x, C, dx, [], rfl, hx, T.cl, T.nP, (by show 0 < 1000; decide), q⟩
/-- the promise of __init__ where a set is made -/
abbrev spI (C : Addr) : Sp := fun vs H Q E => sp_init C (vs ++ []) H Q E
theorem mk_rng {H : Hp} {t : Addr} {ps : List Stc} {Q : VK} (hp : PartsT H t ps) (hc : Canon ps) (q : ∀ r H', Same H H' → Rng C H' r ps → Q (.ref r) H') :
    ∀ x dx, H x = none → H dx = none → dx ≠ x → spI C (V.ref x :: [.ref t]) (upd (upd H dx (.own x)) x (.ins C dx [])) (fun v H2 => v = .non ∧ Q (.ref x) H2) E0 := by
  intro x dx hx hdx hne
  refine ⟨x, dx, t, rfl, upd_same, rfl, ?_⟩
  have sm : Same H (upd (upd (upd H dx (.own x)) x (.ins C dx [])) x (.ins C dx [("parts", .ref t)])) := fun b o e => by
    rw [upd_ne (ne_of_none e hx), upd_ne (ne_of_none e hx), upd_ne (ne_of_none e hdx)]
    exact e
  exact q x _ sm ⟨dx, t, upd_same, hp.up sm, hc⟩
theorem canon_nil : Canon [] := ⟨fun s hs => by simp at hs, .nil⟩
theorem canon_one {s : Stc} (h : NE s) : Canon [s] := ⟨fun x hx => by rw [List.mem_singleton.mp hx]; exact h, List.pairwise_singleton ..⟩
/-- «a new set with the integers that g tells» -/
abbrev NewR (C : Addr) (H : Hp) (Q : VK) (n : Nat) (g : Int → Bool) : Prop := ∀ r H' ps, Same H H' → Rng C H' r ps → (∀ k, hasL ps k = g k) → ps.length ≤ n → Q (.ref r) H'
abbrev s_Ranges_between : Stmt := inClass (top 6) 2
theorem sc_Ranges_between : FnScope ["cls", "low", "high"] ["cls", "low", "high"] (defScope s_Ranges_between) := ⟨rfl, rfl, rfl, by decide +kernel, rfl, by decide +kernel, by decide +kernel⟩
def sp_between (C : Addr) : Sp := fun vs H Q _ => ∃ lo hi, vs = [.ref C, ov lo, ov hi] ∧ NewR C H Q 1 (has1 (lo, hi))
theorem ok_between {f : Addr} {fd fdI : FuncData} (F : Fun K "between" "Ranges.between" s_Ranges_between f fd) (FI : Fun K "__init__" "Ranges.__init__" s_Ranges__init fI fdI) (B_init : Binds K fdI ["self", "parts"] []) (T : ClsT K mg C fI fE) :
    FnOk P w K mg base CX0 3 f fd ["cls", "low", "high"] (sp_between C) := by
  have RI : FnR P w K mg base CX0 1 fI (spI C) := FnOk.raw (ok_init FI T) B_init .nil
  have M := T.M
  refine F.ok sc_Ranges_between (fun vs H Q E h => ?_) (fun cdv A outer s H vs Q E hr h => ?_)
  · obtain ⟨lo, hi, rfl, _⟩ := h
    rfl
  · obtain ⟨lo, hi, rfl, q⟩ := h
    refine ⟨_, (pss_cons (ps_if (PW.pt (pw_and (pt_cmpR op_notN (pv 1) pe_non (nomark _)) (pw_and (pt_cmpR op_notN (pv 2) pe_non (nomark _)) (pw_and1 (pt_cmpR op_gt (pv 1) (pv 2) (nomark _))))))
 (pss_one (ps_ret (pe_makeL (i := 0) M RI (hr.mono (by decide)) rfl (Or.inl rfl) pass0 (pa_cons (pe_tup pa_nil) pa_nil))))
 pss_nil)
 (pss_one (ps_ret (pe_makeL (i := 0) M RI (hr.mono (by decide)) rfl (Or.inl rfl) pass0 (pa_cons (pe_tup (pa_cons (pe_tup (pa_cons (pv 1) (pa_cons (pv 2) pa_nil))) pa_nil)) pa_nil))))), ?_⟩
    have full : NE (lo, hi) → tRet (tMakeL 0 C (spI C) E0 (tCons (tTup (tCons (tTup (tCons (tVar 1) (tCons (tVar 2) tNil))) tNil)) tNil)) { nx := fun _ H' => Q .non H', rt := Q } [some (.ref C), some (ov lo), some (ov hi)] H := by
      intro hn
      walk_at "rd"
      refine ⟨rfl, ?_⟩
      unfold StX.tMakeR
      walk_at "rd"
      refine ⟨size_of (Nat.le_of_ble_eq_true rfl), fun p hp => ?_⟩
      obtain ⟨H1, e1, s1, h1⟩ := new_heap (o := .tup [ov lo, ov hi]) hp
      rw [e1]
      walk_at "rd"
      refine ⟨size_of (Nat.le_of_ble_eq_true rfl), fun p' hp' => ?_⟩
      obtain ⟨H2, e2, s2, h2⟩ := new_heap (o := .tup [.ref p]) hp'
      rw [e2]
      walk_at "rd"
      refine mk_rng (ps := [(lo, hi)]) ⟨_, h2, .cons ⟨p, rfl, s2 _ _ h1⟩ .nil⟩ (canon_one hn) fun r H' s3 hr => ?_
      exact q r H' _ (fun b o z => s3 _ _ (s2 _ _ (s1 _ _ z))) hr (fun k => hasL_one _ _) (Nat.le_refl _)
    walk_at "rd"
    cases lo with
    | none =>
      refine ite_nd (fun h => absurd rfl h) fun _ => iteF ?_
      walk_at "rd"
      exact full (fun l h e => nomatch e)
    | some l =>
      refine ite_nd (fun _ => ?_) (fun h => nomatch h)
      walk_at "rd"
      cases hi with
      | none =>
        refine ite_nd (fun h => absurd rfl h) fun _ => iteF ?_
        walk_at "rd"
        exact full (fun l h _ e => nomatch e)
      | some h =>
        refine ite_nd (fun _ => ?_) (fun h => nomatch h)
        walk_at "rd"
        refine ite_d (fun hlt => ?_) (fun hge => ?_)
        · walk_at "rd"
          refine ⟨rfl, ?_⟩
          unfold StX.tMakeR
          walk_at "rd"
          refine ⟨Nat.zero_le _, fun p hp => ?_⟩
          obtain ⟨H1, e1, s1, h1⟩ := new_heap (o := .tup []) hp
          rw [e1]
          walk_at "rd"
          refine mk_rng (ps := []) ⟨_, h1, .nil⟩ canon_nil fun r H' s3 hr => ?_
          refine q r H' _ (fun b o z => s3 _ _ (s1 _ _ z)) hr (fun k => ?_) (Nat.zero_le _)
          rw [hasL_nil]
          simp only [has1]
          rw [eq_comm, Bool.and_eq_false_iff, decide_eq_false_iff_not, decide_eq_false_iff_not]
          omega
        · walk_at "rd"
          exact full (fun a b e1 e2 => by cases e1; cases e2; omega)
abbrev s_Ranges_full : Stmt := inClass (top 6) 3
theorem sc_Ranges_full : FnScope ["cls"] ["cls"] (defScope s_Ranges_full) := ⟨rfl, rfl, rfl, by decide +kernel, rfl, by decide +kernel, by decide +kernel⟩
def sp_full (C : Addr) : Sp := fun vs H Q _ => vs = [.ref C] ∧ ∀ r H', Same H H' → Rng C H' r [(none, none)] → Q (.ref r) H'
theorem ok_full {f : Addr} {fd fdI : FuncData} (F : Fun K "full" "Ranges.full" s_Ranges_full f fd) (FI : Fun K "__init__" "Ranges.__init__" s_Ranges__init fI fdI) (B_init : Binds K fdI ["self", "parts"] []) (T : ClsT K mg C fI fE) :
    FnOk P w K mg base CX0 3 f fd ["cls"] (sp_full C) := by
  have RI : FnR P w K mg base CX0 1 fI (spI C) := FnOk.raw (ok_init FI T) B_init .nil
  have M := T.M
  refine F.ok sc_Ranges_full (fun vs H Q E h => ?_) (fun cdv A outer s H vs Q E hr h => ?_)
  · obtain ⟨rfl, _⟩ := h
    rfl
  · obtain ⟨rfl, q⟩ := h
    refine ⟨_, (pss_one (ps_ret (pe_makeL (i := 0) M RI (hr.mono (by decide)) rfl (Or.inl rfl) pass0 (pa_cons (pe_tup (pa_cons (pe_tup (pa_cons pe_non (pa_cons pe_non pa_nil))) pa_nil)) pa_nil)))), ?_⟩
    walk_at "rd"
    refine ⟨rfl, ?_⟩
    unfold StX.tMakeR
    walk_at "rd"
    refine ⟨size_of (Nat.le_of_ble_eq_true rfl), fun p hp => ?_⟩
    obtain ⟨H1, e1, s1, h1⟩ := new_heap (o := .tup [.non, .non]) hp
    rw [e1]
    walk_at "rd"
    refine ⟨size_of (Nat.le_of_ble_eq_true rfl), fun p' hp' => ?_⟩
    obtain ⟨H2, e2, s2, h2⟩ := new_heap (o := .tup [.ref p]) hp'
    rw [e2]
    walk_at "rd"
    refine mk_rng (ps := [(none, none)]) ⟨_, h2, .cons ⟨p, rfl, s2 _ _ h1⟩ .nil⟩ (canon_one fun l h e => nomatch e) fun r H' s3 hr => ?_
    exact q r H' (fun b o z => s3 _ _ (s2 _ _ (s1 _ _ z))) hr
abbrev s_Ranges_empty : Stmt := inClass (top 6) 4
theorem sc_Ranges_empty : FnScope ["cls"] ["cls"] (defScope s_Ranges_empty) := ⟨rfl, rfl, rfl, by decide +kernel, rfl, by decide +kernel, by decide +kernel⟩
def sp_empty (C : Addr) : Sp := fun vs H Q _ => vs = [.ref C] ∧ ∀ r H', Same H H' → Rng C H' r [] → Q (.ref r) H'
theorem ok_empty {f : Addr} {fd fdI : FuncData} (F : Fun K "empty" "Ranges.empty" s_Ranges_empty f fd) (FI : Fun K "__init__" "Ranges.__init__" s_Ranges__init fI fdI) (B_init : Binds K fdI ["self", "parts"] []) (T : ClsT K mg C fI fE) :
    FnOk P w K mg base CX0 3 f fd ["cls"] (sp_empty C) := by
  have RI : FnR P w K mg base CX0 1 fI (spI C) := FnOk.raw (ok_init FI T) B_init .nil
  have M := T.M
  refine F.ok sc_Ranges_empty (fun vs H Q E h => ?_) (fun cdv A outer s H vs Q E hr h => ?_)
  · obtain ⟨rfl, _⟩ := h
    rfl
  · obtain ⟨rfl, q⟩ := h
    refine ⟨_, (pss_one (ps_ret (pe_makeL (i := 0) M RI (hr.mono (by decide)) rfl (Or.inl rfl) pass0 (pa_cons (pe_tup pa_nil) pa_nil)))), ?_⟩
    walk_at "rd"
    refine ⟨rfl, ?_⟩
    unfold StX.tMakeR
    walk_at "rd"
    refine ⟨Nat.zero_le _, fun p hp => ?_⟩
    obtain ⟨H1, e1, s1, h1⟩ := new_heap (o := .tup []) hp
    rw [e1]
    walk_at "rd"
    refine mk_rng (ps := []) ⟨_, h1, .nil⟩ canon_nil fun r H' s3 hr => ?_
    exact q r H' (fun b o z => s3 _ _ (s1 _ _ z)) hr
/-! ### a | b -/
abbrev s_Ranges__or : Stmt := inClass (top 6) 5
theorem sc_Ranges__or : FnScope ["self", "other"] ["self", "other"] (defScope s_Ranges__or) := ⟨rfl, rfl, rfl, by decide +kernel, rfl, by decide +kernel, by decide +kernel⟩
def sp_or (C : Addr) : Sp := fun vs H Q _ => ∃ a b ps qs, vs = [.ref a, .ref b] ∧ Rng C H a ps ∧ Rng C H b qs ∧ ps.length + qs.length ≤ 1000 ∧ NewR C H Q (ps.length + qs.length) fun k => hasL ps k || hasL qs k
theorem tups_append {H : Hp} {vs ws : List V} {ps qs : List Stc} (h : Tups H vs ps) (h' : Tups H ws qs) : Tups H (vs ++ ws) (ps ++ qs) := by
  induction h with
  | nil => exact h'
  | cons r t ih => exact .cons r ih
theorem lk_parts {t : Addr} : ([("parts", V.ref t)] : List (Str × V)).lookup ("parts" : Str) = some (V.ref t) := by
  show (match (("parts" : Str) == "parts") with | true => some (V.ref t) | false => none) = some (V.ref t)
  rw [beq_self_eq_true]
theorem ok_or {f fJ : Addr} {fd fdI fdJ : FuncData} (F : Fun K "__or__" "Ranges.__or__" s_Ranges__or f fd) (FI : Fun K "__init__" "Ranges.__init__" s_Ranges__init fI fdI) (B_init : Binds K fdI ["self", "parts"] []) (T : ClsT K mg C fI fE)
    (F_joined : Fun K "joined" "joined" s_joined fJ fdJ) (B_joined : Binds K fdJ ["stretches"] []) (g_joined : mg "joined" = some (.ref fJ)) (G_joined : FnOk P w K mg base CX0 4 fJ fdJ ["stretches"] (sp_joined K)) :
    FnOk P w K mg base CX0 5 f fd ["self", "other"] (sp_or C) := by
  have RI : FnR P w K mg base CX0 1 fI (spI C) := FnOk.raw (ok_init FI T) B_init .nil
  have M := T.M
  have g_C := T.g_C
  refine F.ok sc_Ranges__or (fun vs H Q E h => ?_) (fun cdv A outer s H vs Q E hr h => ?_)
  · obtain ⟨a, b, ps, qs, rfl, _⟩ := h
    rfl
  · obtain ⟨a, b, ps, qs, rfl, ⟨dx, t, ha, ⟨vs, ht, tu⟩, ca⟩, ⟨dy, u, hb, ⟨ws, hu, tw⟩, cb⟩, hz, q⟩ := h
    refine ⟨_, (pss_one (ps_ret (StX.pe_makeR M RI (hr.mono (by decide)) rfl g_C pass0 (pa_cons (pe_call G_joined (hr.mono (by decide)) rfl g_joined F_joined.kp B_joined .nil pass0 (pa_cons (pe_op op_catA (pe_fld (pv 0) rfl) (pe_fld (pv 1) rfl)) pa_nil)) pa_nil)))), ?_⟩
    have l1 := tups_len tu
    have l2 := tups_len tw
    have hne : ∀ s, s ∈ ps ++ qs → NE s := fun s hs => (List.mem_append.mp hs).elim (ca.ne s) (cb.ne s)
    have fin : ∀ (p : Addr) (H1 : Hp), Same H H1 → H1 p = some (.tup (vs ++ ws)) → sp_joined K [.ref p] H1 (fun v H2 => ∀ x dx, H2 x = none → H2 dx = none → dx ≠ x → spI C (V.ref x :: [v]) (upd (upd H2 dx (.own x)) x (.ins C dx [])) (fun v H2 => v = .non ∧ Q (.ref x) H2) E0) E0 := by
      intro p H1 s1 hp
      refine ⟨p, vs ++ ws, ps ++ qs, rfl, .inr (SqT.of hp), tups_append (tu.up s1) (tw.up s1), by rw [List.length_append]; exact hz, hne, fun r H2 rs s2 hr hc hm hl => ?_⟩
      refine mk_rng hr hc fun x H3 s3 hx => ?_
      exact q x H3 rs (fun b o z => s3 _ _ (s2 _ _ (s1 _ _ z))) hx (fun k => by rw [hm k, hasL_append]) (by rw [List.length_append] at hl; exact hl)
    unfold StX.tMakeR
    walk_at "rd"
    refine ⟨_, rfl, a, C, dx, _, _, rfl, ha, T.cl, T.nP, lk_parts, ?_⟩
    refine ⟨_, rfl, b, C, dy, _, _, rfl, hb, T.cl, T.nP, lk_parts, ?_⟩
    refine ⟨t, u, vs, ws, rfl, rfl, SqT.of ht, SqT.of hu, size_of (by omega), fun e => ?_, fun _ e => ?_, fun _ _ p hp => ?_⟩
    · subst e
      exact fin u H (Same.refl H) hu
    · subst e
      exact fin t H (Same.refl H) (by rw [List.append_nil]; exact ht)
    · obtain ⟨H1, e1, s1, h1⟩ := new_heap (o := .tup (vs ++ ws)) hp
      rw [e1]
      exact fin p H1 s1 h1

/-! ### Ranges.of(*numbers) -/
def singles (ns : List Int) : List Stc := ns.map fun n => (some n, some n)
abbrev s_Ranges_of : Stmt := inClass (top 6) 1
theorem sc_Ranges_of : FnScope ["cls", "numbers", "number"] ["cls", "numbers"] (defScope s_Ranges_of) := ⟨rfl, rfl, rfl, by decide +kernel, rfl, by decide +kernel, by decide +kernel⟩
def sp_ofI (C : Addr) : Sp := fun vs H Q _ => ∃ t ns, vs = [.ref C, .ref t] ∧ H t = some (.tup (ns.map V.int)) ∧ ns.length ≤ 1000 ∧ NewR C H Q ns.length (hasL (singles ns))
/-- as it is called -/
def sp_of (C : Addr) : Sp := fun vs H Q _ => ∃ ns : List Int, vs = .ref C :: ns.map V.int ∧ ns.length ≤ 1000 ∧ NewR C H Q ns.length (hasL (singles ns))
structure OInv (H0 : Hp) (t D : Addr) (ns : List Int) (i : Nat) (H : Hp) : Prop where
  ex : ∃ vs, Same H0 H ∧ H D = some (.lst vs) ∧ Tups H vs (singles (ns.take i))
theorem singles_ne (ns : List Int) : ∀ s, s ∈ singles ns → NE s := fun s hs => by
  obtain ⟨n, _, rfl⟩ := List.mem_map.mp hs
  intro l h e1 e2
  cases e1
  cases e2
  exact Int.le_refl _
theorem ok_of {f fJ : Addr} {fd fdI fdJ : FuncData} (F : Fun K "of" "Ranges.of" s_Ranges_of f fd) (FI : Fun K "__init__" "Ranges.__init__" s_Ranges__init fI fdI) (B_init : Binds K fdI ["self", "parts"] []) (T : ClsT K mg C fI fE)
    (F_joined : Fun K "joined" "joined" s_joined fJ fdJ) (B_joined : Binds K fdJ ["stretches"] []) (g_joined : mg "joined" = some (.ref fJ)) (G_joined : FnOk P w K mg base CX0 4 fJ fdJ ["stretches"] (sp_joined K)) :
    FnR P w K mg base CX0 5 f (sp_of C) := by
  have RI : FnR P w K mg base CX0 1 fI (spI C) := FnOk.raw (ok_init FI T) B_init .nil
  have M := T.M
  refine FnR.imp (F.okStar (ps := ["cls"]) (pv := "numbers") (sp := sp_ofI C) sc_Ranges_of (fun kV doc pm an cdv ct => StX.bind_star1 (B := fun us => bindArgs (PySem.W.fnOf "of" "Ranges.of" (defArgs s_Ranges_of) (defBody s_Ranges_of) (defScope s_Ranges_of) .none kV doc pm an cdv ct) ⟨us, []⟩) (fun _ => rfl) fun _ _ _ => rfl) (fun cdv A outer s H vs Q E hr h => ?_)) ?_
  · obtain ⟨t, ns, rfl, ht, hz, q⟩ := h
    refine ⟨_, (pss_one (ps_ret (pe_makeL (i := 0) M RI (hr.mono (by decide)) rfl (Or.inl rfl) pass0 (pa_cons (pe_call G_joined (hr.mono (by decide)) rfl g_joined F_joined.kp B_joined .nil pass0 (pa_cons (pe_lc (own := [("number", 2)]) (g := gName 2) (tt := tYes) rfl sc_Ranges_of.nd (pi_tup (pv 1)) (blkOk_by (own := [("number", 2)]) (N := ["cls", "numbers", "number"]) (sc := defScope s_Ranges_of) (by decide +kernel)) (fun _ _ _ _ _ => pg_name (i := 2) sc_Ranges_of.nd rfl (Or.inl rfl)) (fun _ _ _ _ _ => pts_nil) (fun _ _ _ _ _ => (pe_tup (pa_cons (pv 2) (pa_cons (pv 2) pa_nil))))) pa_nil)) pa_nil)))), ?_⟩
    walk_at "rd"
    refine ⟨rfl, ?_⟩
    unfold StX.tMakeR
    walk_at "rd"
    refine ⟨_, rfl, t, rfl, ⟨_, SqT.of ht⟩, fun D hD => ?_⟩
    obtain ⟨H1, e1, s1, h1⟩ := new_heap (o := .lst []) hD
    refine lc_tup (K := K) (a := t) (xs := ns.map V.int) (OInv H t D ns) ⟨[], by rw [e1]; exact s1, by rw [e1]; exact h1, .nil⟩ ?_ ?_ ?_
    · rintro i H' _ ⟨vs, sm, _⟩
      exact SqT.of (sm _ _ ht)
    · rintro i x H' hx ⟨vs, sm, hd, tu⟩
      have hi : i < ns.length := by
        have := (List.getElem?_eq_some_iff.mp hx).1
        simpa using this
      have ex : x = .int ns[i] := by
        rw [List.getElem?_map, List.getElem?_eq_getElem hi] at hx
        exact (Option.some.inj hx).symm
      subst ex
      walk_at "rd"
      refine ⟨rfl, i_yes (iteT ?_)⟩
      walk_at "rd"
      refine ⟨size_of (Nat.le_of_ble_eq_true rfl), fun p hp => ?_⟩
      obtain ⟨H2, e2, s2, h2⟩ := new_heap (o := .tup [.int ns[i], .int ns[i]]) hp
      rw [e2]
      have hl := tups_len tu
      have hl2 : vs.length ≤ 100000 := by
        rw [hl]
        simp only [singles, List.length_map, List.length_take]
        omega
      refine ⟨vs, s2 _ _ hd, size_lt hl2, ⟨vs ++ [.ref p], Same.mut (fun b o z => s2 _ _ (sm _ _ z)) hD, upd_same, ?_⟩⟩
      have e : singles (ns.take (i + 1)) = singles (ns.take i) ++ [(some ns[i], some ns[i])] := by
        simp only [singles, List.take_succ_eq_append_getElem hi, List.map_append, List.map_cons, List.map_nil]
      rw [e]
      exact Tups.mut (tups_snoc (tu.up s2) ⟨p, rfl, h2⟩) (s2 _ _ hd)
    · rintro H' ⟨vs, sm, hd, tu⟩
      rw [List.length_map, List.take_length] at tu
      refine ⟨D, vs, singles ns, rfl, .inl (SqL.of hd), tu, by simpa [singles] using hz, singles_ne ns, fun p H2 ps s2 hp hc hm hl => ?_⟩
      refine mk_rng hp hc fun r H3 s3 hr => ?_
      exact q r H3 ps (fun b o z => s3 _ _ (s2 _ _ (sm _ _ z))) hr hm (by simpa [singles] using hl)
  · rintro vs H Q E ⟨ns, rfl, hz, q⟩
    refine ⟨[.ref C], ns.map V.int, rfl, rfl, size_of (by rw [List.length_map]; omega), fun p hp => ?_⟩
    obtain ⟨H1, e1, s1, h1⟩ := new_heap (o := .tup (ns.map V.int)) hp
    rw [e1]
    exact ⟨p, ns, rfl, h1, hz, fun r H' ps sm hr hm hl => q r H' ps (fun b o z => sm _ _ (s1 _ _ z)) hr hm hl⟩
/-! ### ==, in, bool -/
end
end Spk.Fi

set_option Elab.async false
set_option linter.all false
set_option maxRecDepth 100000
set_option maxHeartbeats 1000000
namespace Spk.Fi
open PySem L2 Spk
local macro_rules | `(tactic| walk_at "rd") => `(tactic| repeat (first
  | with_reducible refine i_seq ?_ | with_reducible refine i_asg ?_ | with_reducible refine i_ret ?_ | with_reducible refine i_ifS ?_ | with_reducible refine i_if ?_
  | with_reducible refine i_for ?_ | with_reducible refine i_iL ?_ | with_reducible refine i_iT ?_ | with_reducible refine i_ckw ?_ | with_reducible refine i_cm ?_ | with_reducible refine And.intro (rfl : V.ref _ = V.ref _) ?_ | with_reducible refine i_rng1 ?_ | with_reducible refine i_bm ?_ | with_reducible refine i_bm0 ?_
  | with_reducible refine i_drop ?_ | with_reducible refine i_next ?_
  | with_reducible refine i_var rfl ?_ | with_reducible refine i_c ?_ | with_reducible refine i_op ?_ | with_reducible refine i_un ?_ | with_reducible refine i_name ?_
  | with_reducible refine i_rI0 ?_ | with_reducible refine i_rU ?_ | with_reducible refine i_rEq rfl ?_ | with_reducible refine i_rNe rfl ?_
  | with_reducible refine i_test ?_ | with_reducible refine i_tB ?_ | with_reducible refine i_and ?_ | with_reducible refine i_or ?_ | with_reducible refine i_not ?_
  | with_reducible refine i_andV ?_ | with_reducible refine i_orV ?_ | with_reducible refine i_notV ?_
  | with_reducible refine i_cons ?_ | with_reducible refine i_nil ?_ | with_reducible refine i_cb ?_ | with_reducible refine i_call ?_ | with_reducible refine i_bl ?_
  | with_reducible refine i_tup ?_ | with_reducible refine i_lst ?_ | with_reducible refine i_par ?_ | with_reducible refine i_gcons ?_ | with_reducible refine i_gnil ?_
  | with_reducible refine And.intro (rfl : V.non = V.non) ?_ | with_reducible refine i_ixT (by assumption) rfl ?_ | with_reducible refine i_ixL (by assumption) rfl ?_ | with_reducible refine i_gtup (by assumption) rfl ?_
  | with_reducible refine i_gsub ?_
  | with_reducible refine Or.inl (Exists.intro _ (And.intro (rfl : [V.int _] = [V.int _]) ?_)) | with_reducible refine Exists.intro _ (And.intro (rfl : [V.int _] = [V.int _]) ?_)
  | with_reducible refine Or.inr (Exists.intro _ (And.intro (rfl : [V.bl _] = [V.bl _]) ?_))
  | with_reducible refine Exists.intro _ (Exists.intro _ (And.intro (rfl : [V.int _, V.int _] = [V.int _, V.int _]) ?_))
  | with_reducible refine Exists.intro _ (Exists.intro _ (And.intro (rfl : [V.ref _] = [V.ref _]) (And.intro (Or.inl (SqL.of (by assumption))) ?_)))
  | with_reducible refine i_rI (show (0 : Int) < _ by assumption) ?_ | with_reducible refine i_rI (show (0 : Int) < _ by decide) ?_
  | with_reducible refine i_rI (pow_ok (Nat.le_of_ble_eq_true rfl) (Nat.le_of_ble_eq_true rfl)) ?_
  | with_reducible refine i_rI (cmulL rfl) ?_))
section
variable {P : Program} {w : World} {K : PySem.W.Frag} {mg : Str → Option Value} {base : Heap}
theorem _root_.Spk.TupS.keep {H H' : Hp} {v : V} {s : Stc} (e : Keep H H') (h : TupS H v s) : TupS H' v s := by
  obtain ⟨a, rfl, h⟩ := h
  exact ⟨a, rfl, e _ _ rfl h⟩
theorem _root_.Spk.Tups.keep {H H' : Hp} {vs : List V} {ss : List Stc} (e : Keep H H') (h : Tups H vs ss) : Tups H' vs ss := Paired.mapP h fun _ _ z => z.keep e
theorem PartsT.keep {H H' : Hp} {t : Addr} {ps : List Stc} (e : Keep H H') (h : PartsT H t ps) : PartsT H' t ps := by
  obtain ⟨vs, h, z⟩ := h
  exact ⟨vs, e _ _ rfl h, z.keep e⟩
theorem Rng.keep {C : Addr} {H H' : Hp} {r : Addr} {ps : List Stc} (e : Keep H H') (h : Rng C H r ps) : Rng C H' r ps := by
  obtain ⟨dx, t, a, b, c⟩ := h
  exact ⟨dx, t, e _ _ rfl a, b.keep e, c⟩
end
end Spk.Fi

set_option Elab.async false
set_option linter.all false
set_option maxRecDepth 100000
set_option maxHeartbeats 1000000
namespace Spk.Fi
open PySem L2 Spk
local macro_rules | `(tactic| walk_at "rd") => `(tactic| repeat (first
  | with_reducible refine i_seq ?_ | with_reducible refine i_asg ?_ | with_reducible refine i_ret ?_ | with_reducible refine i_ifS ?_ | with_reducible refine i_if ?_
  | with_reducible refine i_for ?_ | with_reducible refine i_iL ?_ | with_reducible refine i_iT ?_ | with_reducible refine i_ckw ?_ | with_reducible refine i_cm ?_ | with_reducible refine And.intro (rfl : V.ref _ = V.ref _) ?_ | with_reducible refine i_rng1 ?_ | with_reducible refine i_bm ?_ | with_reducible refine i_bm0 ?_
  | with_reducible refine i_drop ?_ | with_reducible refine i_next ?_
  | with_reducible refine i_var rfl ?_ | with_reducible refine i_c ?_ | with_reducible refine i_op ?_ | with_reducible refine i_un ?_ | with_reducible refine i_name ?_
  | with_reducible refine i_rI0 ?_ | with_reducible refine i_rU ?_ | with_reducible refine i_rEq rfl ?_ | with_reducible refine i_rNe rfl ?_
  | with_reducible refine i_test ?_ | with_reducible refine i_tB ?_ | with_reducible refine i_and ?_ | with_reducible refine i_or ?_ | with_reducible refine i_not ?_
  | with_reducible refine i_andV ?_ | with_reducible refine i_orV ?_ | with_reducible refine i_notV ?_
  | with_reducible refine i_cons ?_ | with_reducible refine i_nil ?_ | with_reducible refine i_cb ?_ | with_reducible refine i_call ?_ | with_reducible refine i_bl ?_
  | with_reducible refine i_tup ?_ | with_reducible refine i_lst ?_ | with_reducible refine i_par ?_ | with_reducible refine i_gcons ?_ | with_reducible refine i_gnil ?_
  | with_reducible refine And.intro (rfl : V.non = V.non) ?_ | with_reducible refine i_ixT (by assumption) rfl ?_ | with_reducible refine i_ixL (by assumption) rfl ?_ | with_reducible refine i_gtup (by assumption) rfl ?_
  | with_reducible refine i_gsub ?_
  | with_reducible refine Or.inl (Exists.intro _ (And.intro (rfl : [V.int _] = [V.int _]) ?_)) | with_reducible refine Exists.intro _ (And.intro (rfl : [V.int _] = [V.int _]) ?_)
  | with_reducible refine Or.inr (Exists.intro _ (And.intro (rfl : [V.bl _] = [V.bl _]) ?_))
  | with_reducible refine Exists.intro _ (Exists.intro _ (And.intro (rfl : [V.int _, V.int _] = [V.int _, V.int _]) ?_))
  | with_reducible refine Exists.intro _ (Exists.intro _ (And.intro (rfl : [V.ref _] = [V.ref _]) (And.intro (Or.inl (SqL.of (by assumption))) ?_)))
  | with_reducible refine i_rI (show (0 : Int) < _ by assumption) ?_ | with_reducible refine i_rI (show (0 : Int) < _ by decide) ?_
  | with_reducible refine i_rI (pow_ok (Nat.le_of_ble_eq_true rfl) (Nat.le_of_ble_eq_true rfl)) ?_
  | with_reducible refine i_rI (cmulL rfl) ?_))
/-! ### three truths -/
/-- a truth as a value -/
def tv : Option Bool → V
  | none => .non
  | some b => .bl b
def and3 (a b : Option Bool) : Option Bool := if a = some false ∨ b = some false then some false else if a = none ∨ b = none then none else some true
def or3 (a b : Option Bool) : Option Bool := if a = some true ∨ b = some true then some true else if a = none ∨ b = none then none else some false
def not3 (a : Option Bool) : Option Bool := a.map fun b => !b
theorem tv_non (a : Option Bool) : decide (tv a = .non) = decide (a = none) := by
  cases a <;> rfl
/-- x is True, x is False of a truth -/
theorem op_isTr {X : Cx} : OpR X (compareOp .Is) (fun x y H Q => ∃ (a : Option Bool) (b : Bool), x = tv a ∧ y = .bl b ∧ Q (.bl (decide (a = some b))) H) := by
  intro pins s σ H x y v u Q I rx ry h
  obtain ⟨a, b, rfl, rfl, q⟩ := h
  cases a with
  | some c =>
    refine op_isBl pins s σ H (.bl c) (.bl b) v u Q I rx ry ⟨c, b, rfl, rfl, ?_⟩
    have e : decide (c = b) = decide (some c = some b) := by cases c <;> cases b <;> rfl
    rw [e]
    exact q
  | none =>
    cases (show v = Value.none from rx)
    cases (show u = Value.bool b from ry)
    exact wpAny_is_other rfl (fun z => nomatch z) ⟨.bl false, H, I, rfl, q⟩
section
variable {P : Program} {w : World} {K : PySem.W.Frag} {mg : Str → Option Value} {base : Heap}
abbrev s_both : Stmt := top 18
theorem sc_both : FnScope ["one", "other"] ["one", "other"] (defScope s_both) := ⟨rfl, rfl, rfl, by decide +kernel, rfl, by decide +kernel, by decide +kernel⟩
def sp_both : Sp := fun vs H Q _ => ∃ a b, vs = [tv a, tv b] ∧ Q (tv (and3 a b)) H
theorem ok_both {f : Addr} {fd : FuncData} (F : Fun K "both" "both" s_both f fd) : FnOk P w K mg base CX0 1 f fd ["one", "other"] sp_both := by
  refine F.ok sc_both (fun vs H Q E h => ?_) (fun cdv A outer s H vs Q E hr h => ?_)
  · obtain ⟨a, b, rfl, _⟩ := h
    rfl
  · obtain ⟨a, b, rfl, q⟩ := h
    refine ⟨_, (pss_cons (ps_if (PW.pt (pw_or (pt_cmpR op_isTr (pv 0) pe_bl (nomark _)) (pw_or1 (pt_cmpR op_isTr (pv 1) pe_bl (nomark _)))))
 (pss_one (ps_ret pe_bl))
 pss_nil)
 (pss_cons (ps_if (PW.pt (pw_or (pt_cmpR op_isN (pv 0) pe_non (nomark _)) (pw_or1 (pt_cmpR op_isN (pv 1) pe_non (nomark _)))))
 (pss_one (ps_ret pe_non))
 pss_nil)
 (pss_one (ps_ret pe_bl)))), ?_⟩
    walk_at "rd"
    have fin : ∀ c, and3 a b = c → Q (tv c) H := fun c e => by rw [← e]; exact q
    refine ⟨a, false, rfl, rfl, _, rfl, ite_d (fun h1 => ?_) (fun h1 => ?_)⟩
    · walk_at "rd"
      exact fin (some false) (by simp [and3, h1])
    · walk_at "rd"
      refine ⟨b, false, rfl, rfl, _, rfl, ite_d (fun h2 => ?_) (fun h2 => ?_)⟩
      · walk_at "rd"
        exact fin (some false) (by simp [and3, h2])
      · walk_at "rd"
        rw [tv_non]
        refine ite_d (fun h3 => ?_) (fun h3 => ?_)
        · walk_at "rd"
          exact fin none (by simp [and3, h1, h2, h3])
        · walk_at "rd"
          rw [tv_non]
          refine ite_d (fun h4 => ?_) (fun h4 => ?_)
          · walk_at "rd"
            exact fin none (by simp [and3, h1, h2, h4])
          · walk_at "rd"
            exact fin (some true) (by simp [and3, h1, h2, h3, h4])
abbrev s_either : Stmt := top 19
theorem sc_either : FnScope ["one", "other"] ["one", "other"] (defScope s_either) := ⟨rfl, rfl, rfl, by decide +kernel, rfl, by decide +kernel, by decide +kernel⟩
def sp_either : Sp := fun vs H Q _ => ∃ a b, vs = [tv a, tv b] ∧ Q (tv (or3 a b)) H
theorem ok_either {f : Addr} {fd : FuncData} (F : Fun K "either" "either" s_either f fd) : FnOk P w K mg base CX0 1 f fd ["one", "other"] sp_either := by
  refine F.ok sc_either (fun vs H Q E h => ?_) (fun cdv A outer s H vs Q E hr h => ?_)
  · obtain ⟨a, b, rfl, _⟩ := h
    rfl
  · obtain ⟨a, b, rfl, q⟩ := h
    refine ⟨_, (pss_cons (ps_if (PW.pt (pw_or (pt_cmpR op_isTr (pv 0) pe_bl (nomark _)) (pw_or1 (pt_cmpR op_isTr (pv 1) pe_bl (nomark _)))))
 (pss_one (ps_ret pe_bl))
 pss_nil)
 (pss_cons (ps_if (PW.pt (pw_or (pt_cmpR op_isN (pv 0) pe_non (nomark _)) (pw_or1 (pt_cmpR op_isN (pv 1) pe_non (nomark _)))))
 (pss_one (ps_ret pe_non))
 pss_nil)
 (pss_one (ps_ret pe_bl)))), ?_⟩
    walk_at "rd"
    have fin : ∀ c, or3 a b = c → Q (tv c) H := fun c e => by rw [← e]; exact q
    refine ⟨a, true, rfl, rfl, _, rfl, ite_d (fun h1 => ?_) (fun h1 => ?_)⟩
    · walk_at "rd"
      exact fin (some true) (by simp [or3, h1])
    · walk_at "rd"
      refine ⟨b, true, rfl, rfl, _, rfl, ite_d (fun h2 => ?_) (fun h2 => ?_)⟩
      · walk_at "rd"
        exact fin (some true) (by simp [or3, h2])
      · walk_at "rd"
        rw [tv_non]
        refine ite_d (fun h3 => ?_) (fun h3 => ?_)
        · walk_at "rd"
          exact fin none (by simp [or3, h1, h2, h3])
        · walk_at "rd"
          rw [tv_non]
          refine ite_d (fun h4 => ?_) (fun h4 => ?_)
          · walk_at "rd"
            exact fin none (by simp [or3, h1, h2, h4])
          · walk_at "rd"
            exact fin (some false) (by simp [or3, h1, h2, h3, h4])
abbrev s_negated : Stmt := top 20
theorem sc_negated : FnScope ["truth"] ["truth"] (defScope s_negated) := ⟨rfl, rfl, rfl, by decide +kernel, rfl, by decide +kernel, by decide +kernel⟩
def sp_negated : Sp := fun vs H Q _ => ∃ a, vs = [tv a] ∧ Q (tv (not3 a)) H
theorem ok_negated {f : Addr} {fd : FuncData} (F : Fun K "negated" "negated" s_negated f fd) : FnOk P w K mg base CX0 1 f fd ["truth"] sp_negated := by
  refine F.ok sc_negated (fun vs H Q E h => ?_) (fun cdv A outer s H vs Q E hr h => ?_)
  · obtain ⟨a, rfl, _⟩ := h
    rfl
  · obtain ⟨a, rfl, q⟩ := h
    refine ⟨_, (pss_one (ps_ret (pe_ifExp (pt_cmpR op_isN (pv 0) pe_non (nomark _)) pe_non (pe_not (pv 0))))), ?_⟩
    cases a with
    | none =>
      walk_at "rd"
      refine ite_d (fun _ => ?_) (fun h => absurd rfl h)
      walk_at "rd"
      exact q
    | some b =>
      walk_at "rd"
      refine ite_d (fun h => nomatch h) (fun _ => ?_)
      walk_at "rd"
      exact ⟨b, rfl, q⟩
abbrev s_truth_within : Stmt := top 17
theorem sc_truth_within : FnScope ["value", "parts"] ["value", "parts"] (defScope s_truth_within) := ⟨rfl, rfl, rfl, by decide +kernel, rfl, by decide +kernel, by decide +kernel⟩
/-- what a condition says of a value -/
def wi3 (ps : List Stc) : Option Int → Option Bool
  | none => none
  | some n => some (hasL ps n)
def sp_truth_within : Sp := fun vs H Q _ => ∃ (o : Option Int) (t : Addr) (ps : List Stc), vs = [ov o, .ref t] ∧ PartsT H t ps ∧ Canon ps ∧ Q (tv (wi3 ps o)) H
theorem ok_truth_within {f fP : Addr} {fd fdP : FuncData} (F : Fun K "truth_within" "truth_within" s_truth_within f fd) (F_in_parts : Fun K "in_parts" "in_parts" s_in_parts fP fdP) (B_in_parts : Binds K fdP ["parts", "number"] []) (g_in_parts : mg "in_parts" = some (.ref fP))
    (G_in_parts : FnOk P w K mg base CX0 1 fP fdP ["parts", "number"] sp_in_parts) : FnOk P w K mg base CX0 2 f fd ["value", "parts"] sp_truth_within := by
  refine F.ok sc_truth_within (fun vs H Q E h => ?_) (fun cdv A outer s H vs Q E hr h => ?_)
  · obtain ⟨o, t, ps, rfl, _⟩ := h
    rfl
  · obtain ⟨o, t, ps, rfl, pt, ca, q⟩ := h
    refine ⟨_, (pss_one (ps_ret (pe_ifExp (pt_cmpR op_isN (pv 0) pe_non (nomark _)) pe_non (pe_call G_in_parts (hr.mono (by decide)) rfl g_in_parts F_in_parts.kp B_in_parts .nil pass0 (pa_cons (pv 1) (pa_cons (pv 0) pa_nil)))))), ?_⟩
    cases o with
    | none =>
      walk_at "rd"
      refine ite_d (fun _ => ?_) (fun h => absurd rfl h)
      walk_at "rd"
      exact q
    | some n =>
      walk_at "rd"
      refine ite_d (fun h => nomatch h) (fun _ => ?_)
      walk_at "rd"
      exact ⟨t, ps, n, rfl, pt, ca, q⟩
end
end Spk.Fi

set_option Elab.async false
set_option linter.all false
set_option maxRecDepth 100000
set_option maxHeartbeats 1000000
namespace Spk.Fi
open PySem L2 Spk
local macro_rules | `(tactic| walk_at "rd") => `(tactic| repeat (first
  | with_reducible refine i_seq ?_ | with_reducible refine i_asg ?_ | with_reducible refine i_ret ?_ | with_reducible refine i_ifS ?_ | with_reducible refine i_if ?_
  | with_reducible refine i_for ?_ | with_reducible refine i_iL ?_ | with_reducible refine i_iT ?_ | with_reducible refine i_ckw ?_ | with_reducible refine i_cm ?_ | with_reducible refine And.intro (rfl : V.ref _ = V.ref _) ?_ | with_reducible refine i_rng1 ?_ | with_reducible refine i_bm ?_ | with_reducible refine i_bm0 ?_
  | with_reducible refine i_drop ?_ | with_reducible refine i_next ?_
  | with_reducible refine i_var rfl ?_ | with_reducible refine i_c ?_ | with_reducible refine i_op ?_ | with_reducible refine i_un ?_ | with_reducible refine i_name ?_
  | with_reducible refine i_rI0 ?_ | with_reducible refine i_rU ?_ | with_reducible refine i_rEq rfl ?_ | with_reducible refine i_rNe rfl ?_
  | with_reducible refine i_test ?_ | with_reducible refine i_tB ?_ | with_reducible refine i_and ?_ | with_reducible refine i_or ?_ | with_reducible refine i_not ?_
  | with_reducible refine i_andV ?_ | with_reducible refine i_orV ?_ | with_reducible refine i_notV ?_
  | with_reducible refine i_cons ?_ | with_reducible refine i_nil ?_ | with_reducible refine i_cb ?_ | with_reducible refine i_call ?_ | with_reducible refine i_bl ?_
  | with_reducible refine i_tup ?_ | with_reducible refine i_lst ?_ | with_reducible refine i_par ?_ | with_reducible refine i_gcons ?_ | with_reducible refine i_gnil ?_
  | with_reducible refine And.intro (rfl : V.non = V.non) ?_ | with_reducible refine i_ixT (by assumption) rfl ?_ | with_reducible refine i_ixL (by assumption) rfl ?_ | with_reducible refine i_gtup (by assumption) rfl ?_
  | with_reducible refine i_gsub ?_
  | with_reducible refine Or.inl (Exists.intro _ (And.intro (rfl : [V.int _] = [V.int _]) ?_)) | with_reducible refine Exists.intro _ (And.intro (rfl : [V.int _] = [V.int _]) ?_)
  | with_reducible refine Or.inr (Exists.intro _ (And.intro (rfl : [V.bl _] = [V.bl _]) ?_))
  | with_reducible refine Exists.intro _ (Exists.intro _ (And.intro (rfl : [V.int _, V.int _] = [V.int _, V.int _]) ?_))
  | with_reducible refine Exists.intro _ (Exists.intro _ (And.intro (rfl : [V.ref _] = [V.ref _]) (And.intro (Or.inl (SqL.of (by assumption))) ?_)))
  | with_reducible refine i_rI (show (0 : Int) < _ by assumption) ?_ | with_reducible refine i_rI (show (0 : Int) < _ by decide) ?_
  | with_reducible refine i_rI (pow_ok (Nat.le_of_ble_eq_true rfl) (Nat.le_of_ble_eq_true rfl)) ?_
  | with_reducible refine i_rI (cmulL rfl) ?_))
/-! ### trees of filters -/
inductive Tr where
  | wi (c : Str) (ps : List Stc)
  | mi (c : Str)
  | al
  | ne
  | an (l r : Tr)
  | ou (l r : Tr)
  | no (t : Tr)
namespace Tr
/-- what the tree says of values by columns -/
def sem (ρ : Str → Option Int) : Tr → Option Bool
  | wi c ps => wi3 ps (ρ c)
  | mi c => some (ρ c).isNone
  | al => some true
  | ne => some false
  | an l r => and3 (sem ρ l) (sem ρ r)
  | ou l r => or3 (sem ρ l) (sem ρ r)
  | no t => not3 (sem ρ t)
/-- its columns, some several times -/
def cols : Tr → List Str
  | wi c _ => [c]
  | mi c => [c]
  | al => []
  | ne => []
  | an l r => cols l ++ cols r
  | ou l r => cols l ++ cols r
  | no t => cols t
def deep : Tr → Nat
  | wi _ _ => 1
  | mi _ => 1
  | al => 1
  | ne => 1
  | an l r => max (deep l) (deep r) + 1
  | ou l r => max (deep l) (deep r) + 1
  | no t => deep t + 1
/-- its conditions -/
def many : Tr → Nat
  | wi _ _ => 1
  | mi _ => 1
  | al => 1
  | ne => 1
  | an l r => many l + many r
  | ou l r => many l + many r
  | no t => many t
end Tr
/-- the value is the tree's tuple -/
def TreeAt (H : Hp) : Tr → V → Prop
  | .wi c ps, v => ∃ a p, v = .ref a ∧ H a = some (.tup [.str "within", .str c, .ref p]) ∧ PartsT H p ps ∧ Canon ps
  | .mi c, v => ∃ a, v = .ref a ∧ H a = some (.tup [.str "missing", .str c])
  | .al, v => ∃ a, v = .ref a ∧ H a = some (.tup [.str "always"])
  | .ne, v => ∃ a, v = .ref a ∧ H a = some (.tup [.str "never"])
  | .an l r, v => ∃ a x y, v = .ref a ∧ H a = some (.tup [.str "and", x, y]) ∧ TreeAt H l x ∧ TreeAt H r y
  | .ou l r, v => ∃ a x y, v = .ref a ∧ H a = some (.tup [.str "or", x, y]) ∧ TreeAt H l x ∧ TreeAt H r y
  | .no t, v => ∃ a x, v = .ref a ∧ H a = some (.tup [.str "not", x]) ∧ TreeAt H t x
/-- from one heap into another one -/
theorem TreeAt.via {H H' : Hp} (e1 : ∀ a xs, H a = some (.tup xs) → H' a = some (.tup xs)) (e2 : ∀ a ps, PartsT H a ps → PartsT H' a ps) : ∀ {t : Tr} {v : V}, TreeAt H t v → TreeAt H' t v
  | .wi c ps, v, h => by
    obtain ⟨a, p, e, h1, h2, h3⟩ := h
    exact ⟨a, p, e, e1 _ _ h1, e2 _ _ h2, h3⟩
  | .mi c, v, h => by
    obtain ⟨a, e, h1⟩ := h
    exact ⟨a, e, e1 _ _ h1⟩
  | .al, v, h => by
    obtain ⟨a, e, h1⟩ := h
    exact ⟨a, e, e1 _ _ h1⟩
  | .ne, v, h => by
    obtain ⟨a, e, h1⟩ := h
    exact ⟨a, e, e1 _ _ h1⟩
  | .an l r, v, h => by
    obtain ⟨a, x, y, e, h1, h2, h3⟩ := h
    exact ⟨a, x, y, e, e1 _ _ h1, TreeAt.via e1 e2 h2, TreeAt.via e1 e2 h3⟩
  | .ou l r, v, h => by
    obtain ⟨a, x, y, e, h1, h2, h3⟩ := h
    exact ⟨a, x, y, e, e1 _ _ h1, TreeAt.via e1 e2 h2, TreeAt.via e1 e2 h3⟩
  | .no t, v, h => by
    obtain ⟨a, x, e, h1, h2⟩ := h
    exact ⟨a, x, e, e1 _ _ h1, TreeAt.via e1 e2 h2⟩
theorem TreeAt.up {H H' : Hp} (e : Same H H') {t : Tr} {v : V} (h : TreeAt H t v) : TreeAt H' t v := h.via (fun _ _ z => e _ _ z) fun _ _ z => z.up e
theorem TreeAt.keep {H H' : Hp} (e : Keep H H') {t : Tr} {v : V} (h : TreeAt H t v) : TreeAt H' t v := h.via (fun _ _ z => e _ _ rfl z) fun _ _ z => z.keep e
/-- a dict of values by columns -/
def ValsAt (H : Hp) (m : Addr) (ρ : Str → Option Int) (cs : List Str) : Prop := ∃ kvs, H m = some (.dK kvs) ∧ ∀ c, c ∈ cs → valV kvs (Sum.inr c) = some (ov (ρ c))
theorem ValsAt.up {H H' : Hp} {m : Addr} {ρ : Str → Option Int} {cs : List Str} (e : Same H H') (h : ValsAt H m ρ cs) : ValsAt H' m ρ cs := by
  obtain ⟨kvs, h1, h2⟩ := h
  exact ⟨kvs, e _ _ h1, h2⟩
theorem ValsAt.sub {H : Hp} {m : Addr} {ρ : Str → Option Int} {cs ds : List Str} (h : ValsAt H m ρ cs) (s : ∀ c, c ∈ ds → c ∈ cs) : ValsAt H m ρ ds := by
  obtain ⟨kvs, h1, h2⟩ := h
  exact ⟨kvs, h1, fun c hc => h2 c (s c hc)⟩
theorem s_yes {a : Str} {A B : Prop} (h : A) : if decide (V.str a = V.str a) = true then A else B := by
  rw [decide_eq_true rfl]
  exact iteT h
theorem s_no {a b : Str} {A B : Prop} (hn : (a == b) = false) (h : B) : if decide (V.str a = V.str b) = true then A else B := by
  rw [decide_eq_false fun z => by rw [V.str.inj z, beq_self_eq_true] at hn; cases hn]
  exact iteF h
theorem ValsAt.get {H : Hp} {m : Addr} {ρ : Str → Option Int} {cs : List Str} {c : Str} (h : ValsAt H m ρ cs) (hc : c ∈ cs) : DGet H m (.str c) (some (ov (ρ c))) := by
  obtain ⟨kvs, h1, h2⟩ := h
  have z := DGet.k (k := Sum.inr c) h1
  rw [h2 c hc] at z
  exact z
section
variable {P : Program} {w : World} {K : PySem.W.Frag} {mg : Str → Option Value} {base : Heap}
abbrev s_truth_of : Stmt := top 16
theorem sc_truth_of : FnScope ["tree", "values", "word"] ["tree", "values"] (defScope s_truth_of) := ⟨rfl, rfl, rfl, by decide +kernel, rfl, by decide +kernel, by decide +kernel⟩
/-- truth_of of trees of this depth -/
def sp_truth (d : Nat) : Sp := fun vs H Q _ => ∃ t v m ρ, vs = [v, .ref m] ∧ TreeAt H t v ∧ t.deep ≤ d ∧ ValsAt H m ρ t.cols ∧ ∀ H', Same H H' → Q (tv (t.sem ρ)) H'
theorem ok_truth {f fW fB fE fN : Addr} {fd fdW fdB fdE fdN : FuncData} (F : Fun K "truth_of" "truth_of" s_truth_of f fd) (B_truth_of : Binds K fd ["tree", "values"] []) (g_truth_of : mg "truth_of" = some (.ref f))
    (F_truth_within : Fun K "truth_within" "truth_within" s_truth_within fW fdW) (B_truth_within : Binds K fdW ["value", "parts"] []) (g_truth_within : mg "truth_within" = some (.ref fW)) (G_truth_within : FnOk P w K mg base CX0 2 fW fdW ["value", "parts"] sp_truth_within)
    (F_both : Fun K "both" "both" s_both fB fdB) (B_both : Binds K fdB ["one", "other"] []) (g_both : mg "both" = some (.ref fB)) (G_both : FnOk P w K mg base CX0 1 fB fdB ["one", "other"] sp_both)
    (F_either : Fun K "either" "either" s_either fE fdE) (B_either : Binds K fdE ["one", "other"] []) (g_either : mg "either" = some (.ref fE)) (G_either : FnOk P w K mg base CX0 1 fE fdE ["one", "other"] sp_either)
    (F_negated : Fun K "negated" "negated" s_negated fN fdN) (B_negated : Binds K fdN ["truth"] []) (g_negated : mg "negated" = some (.ref fN)) (G_negated : FnOk P w K mg base CX0 1 fN fdN ["truth"] sp_negated) :
    ∀ d, FnOk P w K mg base CX0 (d + 3) f fd ["tree", "values"] (sp_truth d) := by
  intro d
  induction d with
  | zero =>
    refine F.ok sc_truth_of (fun vs H Q E h => ?_) (fun cdv A outer s H vs Q E hr h => ?_)
    · obtain ⟨t, v, m, ρ, rfl, _⟩ := h
      rfl
    · obtain ⟨t, v, m, ρ, rfl, ht, hd, _⟩ := h
      cases t <;> exact absurd hd (by simp [Tr.deep])
  | succ d G_truth_of =>
    have F_truth_of := F
    refine F.ok sc_truth_of (fun vs H Q E h => ?_) (fun cdv A outer s H vs Q E hr h => ?_)
    · obtain ⟨t, v, m, ρ, rfl, _⟩ := h
      rfl
    · obtain ⟨t, v, m, ρ, rfl, ht, hd, hv, q⟩ := h
      refine ⟨_, (pss_cons (ps_set (i := 2) sc_truth_of.nd rfl (Or.inl rfl) (pe_ix ix_tup (pv 0) pe_int (fun _ _ => rfl)))
 (pss_cons (ps_if (pt_cmpR op_eq (pv 2) pe_str (nomark _))
 (pss_one (ps_ret (pe_call G_truth_within (hr.mono (by omega)) rfl g_truth_within F_truth_within.kp B_truth_within .nil pass0 (pa_cons (pe_dget (Nat.lt_of_le_of_lt (Nat.add_le_add_left (by decide : 1 ≤ 64) _) hr.units) (pv 1) (pe_ix ix_tup (pv 0) pe_int (fun _ _ => rfl)) (fun _ _ => rfl)) (pa_cons (pe_ix ix_tup (pv 0) pe_int (fun _ _ => rfl)) pa_nil)))))
 pss_nil)
 (pss_cons (ps_if (pt_cmpR op_eq (pv 2) pe_str (nomark _))
 (pss_one (ps_ret (pe_cmpR op_isN (pe_dget (Nat.lt_of_le_of_lt (Nat.add_le_add_left (by decide : 1 ≤ 64) _) hr.units) (pv 1) (pe_ix ix_tup (pv 0) pe_int (fun _ _ => rfl)) (fun _ _ => rfl)) pe_non (nomark _))))
 pss_nil)
 (pss_cons (ps_if (pt_cmpR op_eq (pv 2) pe_str (nomark _))
 (pss_one (ps_ret (pe_call G_both (hr.mono (by omega)) rfl g_both F_both.kp B_both .nil pass0 (pa_cons (pe_call G_truth_of (hr.mono (by omega)) rfl g_truth_of F_truth_of.kp B_truth_of .nil pass0 (pa_cons (pe_ix ix_tup (pv 0) pe_int (fun _ _ => rfl)) (pa_cons (pv 1) pa_nil))) (pa_cons (pe_call G_truth_of (hr.mono (by omega)) rfl g_truth_of F_truth_of.kp B_truth_of .nil pass0 (pa_cons (pe_ix ix_tup (pv 0) pe_int (fun _ _ => rfl)) (pa_cons (pv 1) pa_nil))) pa_nil)))))
 pss_nil)
 (pss_cons (ps_if (pt_cmpR op_eq (pv 2) pe_str (nomark _))
 (pss_one (ps_ret (pe_call G_either (hr.mono (by omega)) rfl g_either F_either.kp B_either .nil pass0 (pa_cons (pe_call G_truth_of (hr.mono (by omega)) rfl g_truth_of F_truth_of.kp B_truth_of .nil pass0 (pa_cons (pe_ix ix_tup (pv 0) pe_int (fun _ _ => rfl)) (pa_cons (pv 1) pa_nil))) (pa_cons (pe_call G_truth_of (hr.mono (by omega)) rfl g_truth_of F_truth_of.kp B_truth_of .nil pass0 (pa_cons (pe_ix ix_tup (pv 0) pe_int (fun _ _ => rfl)) (pa_cons (pv 1) pa_nil))) pa_nil)))))
 pss_nil)
 (pss_cons (ps_if (pt_cmpR op_eq (pv 2) pe_str (nomark _))
 (pss_one (ps_ret (pe_call G_negated (hr.mono (by omega)) rfl g_negated F_negated.kp B_negated .nil pass0 (pa_cons (pe_call G_truth_of (hr.mono (by omega)) rfl g_truth_of F_truth_of.kp B_truth_of .nil pass0 (pa_cons (pe_ix ix_tup (pv 0) pe_int (fun _ _ => rfl)) (pa_cons (pv 1) pa_nil))) pa_nil))))
 pss_nil)
 (pss_one (ps_ret (pe_cmpR op_eq (pv 2) pe_str (nomark _)))))))))), ?_⟩
      cases t with
      | wi c ps =>
        obtain ⟨a, p, rfl, h1, h2, h3⟩ := ht
        walk_at "rd"
        refine s_yes ?_
        walk_at "rd"
        unfold tDGet
        walk_at "rd"
        refine ⟨m, ov (ρ c), rfl, hv.get (List.mem_singleton.mpr rfl), ?_⟩
        walk_at "rd"
        exact ⟨ρ c, p, ps, rfl, h2, h3, q H (Same.refl H)⟩
      | mi c =>
        obtain ⟨a, rfl, h1⟩ := ht
        walk_at "rd"
        refine s_no rfl ?_
        walk_at "rd"
        refine s_yes ?_
        walk_at "rd"
        unfold tDGet
        walk_at "rd"
        refine ⟨m, ov (ρ c), rfl, hv.get (List.mem_singleton.mpr rfl), ?_⟩
        walk_at "rd"
        have z := q H (Same.refl H)
        cases e : ρ c with
        | none =>
          simp only [Tr.sem, e] at z
          exact z
        | some n =>
          simp only [Tr.sem, e] at z
          exact z
      | al =>
        obtain ⟨a, rfl, h1⟩ := ht
        walk_at "rd"
        refine s_no rfl ?_
        walk_at "rd"
        refine s_no rfl ?_
        walk_at "rd"
        refine s_no rfl ?_
        walk_at "rd"
        refine s_no rfl ?_
        walk_at "rd"
        refine s_no rfl ?_
        walk_at "rd"
        exact q H (Same.refl H)
      | ne =>
        obtain ⟨a, rfl, h1⟩ := ht
        walk_at "rd"
        refine s_no rfl ?_
        walk_at "rd"
        refine s_no rfl ?_
        walk_at "rd"
        refine s_no rfl ?_
        walk_at "rd"
        refine s_no rfl ?_
        walk_at "rd"
        refine s_no rfl ?_
        walk_at "rd"
        exact q H (Same.refl H)
      | an l r =>
        obtain ⟨a, x, y, rfl, h1, h2, h3⟩ := ht
        have d1 : l.deep ≤ d ∧ r.deep ≤ d := by
          simp only [Tr.deep] at hd
          omega
        walk_at "rd"
        refine s_no rfl ?_
        walk_at "rd"
        refine s_no rfl ?_
        walk_at "rd"
        refine s_yes ?_
        walk_at "rd"
        refine ⟨l, x, m, ρ, rfl, h2, d1.1, hv.sub fun c hc => List.mem_append_left _ hc, fun H1 s1 => ?_⟩
        have h1' := s1 _ _ h1
        walk_at "rd"
        refine ⟨r, y, m, ρ, rfl, h3.up s1, d1.2, (hv.up s1).sub fun c hc => List.mem_append_right _ hc, fun H2 s2 => ?_⟩
        walk_at "rd"
        exact ⟨_, _, rfl, q H2 (fun b o z => s2 _ _ (s1 _ _ z))⟩
      | ou l r =>
        obtain ⟨a, x, y, rfl, h1, h2, h3⟩ := ht
        have d1 : l.deep ≤ d ∧ r.deep ≤ d := by
          simp only [Tr.deep] at hd
          omega
        walk_at "rd"
        refine s_no rfl ?_
        walk_at "rd"
        refine s_no rfl ?_
        walk_at "rd"
        refine s_no rfl ?_
        walk_at "rd"
        refine s_yes ?_
        walk_at "rd"
        refine ⟨l, x, m, ρ, rfl, h2, d1.1, hv.sub fun c hc => List.mem_append_left _ hc, fun H1 s1 => ?_⟩
        have h1' := s1 _ _ h1
        walk_at "rd"
        refine ⟨r, y, m, ρ, rfl, h3.up s1, d1.2, (hv.up s1).sub fun c hc => List.mem_append_right _ hc, fun H2 s2 => ?_⟩
        walk_at "rd"
        exact ⟨_, _, rfl, q H2 (fun b o z => s2 _ _ (s1 _ _ z))⟩
      | no t =>
        obtain ⟨a, x, rfl, h1, h2⟩ := ht
        have d1 : t.deep ≤ d := by
          simp only [Tr.deep] at hd
          omega
        walk_at "rd"
        refine s_no rfl ?_
        walk_at "rd"
        refine s_no rfl ?_
        walk_at "rd"
        refine s_no rfl ?_
        walk_at "rd"
        refine s_no rfl ?_
        walk_at "rd"
        refine s_yes ?_
        walk_at "rd"
        refine ⟨t, x, m, ρ, rfl, h2, d1, hv, fun H1 s1 => ?_⟩
        walk_at "rd"
        exact ⟨_, rfl, q H1 s1⟩
end
end Spk.Fi

set_option Elab.async false
set_option linter.all false
set_option maxRecDepth 100000
set_option maxHeartbeats 1000000
namespace Spk.Fi
open PySem L2 Spk
local macro_rules | `(tactic| walk_at "rd") => `(tactic| repeat (first
  | with_reducible refine i_seq ?_ | with_reducible refine i_asg ?_ | with_reducible refine i_ret ?_ | with_reducible refine i_ifS ?_ | with_reducible refine i_if ?_
  | with_reducible refine i_for ?_ | with_reducible refine i_iL ?_ | with_reducible refine i_iT ?_ | with_reducible refine i_ckw ?_ | with_reducible refine i_cm ?_ | with_reducible refine And.intro (rfl : V.ref _ = V.ref _) ?_ | with_reducible refine i_rng1 ?_ | with_reducible refine i_bm ?_ | with_reducible refine i_bm0 ?_
  | with_reducible refine i_drop ?_ | with_reducible refine i_next ?_
  | with_reducible refine i_var rfl ?_ | with_reducible refine i_c ?_ | with_reducible refine i_op ?_ | with_reducible refine i_un ?_ | with_reducible refine i_name ?_
  | with_reducible refine i_rI0 ?_ | with_reducible refine i_rU ?_ | with_reducible refine i_rEq rfl ?_ | with_reducible refine i_rNe rfl ?_
  | with_reducible refine i_test ?_ | with_reducible refine i_tB ?_ | with_reducible refine i_and ?_ | with_reducible refine i_or ?_ | with_reducible refine i_not ?_
  | with_reducible refine i_andV ?_ | with_reducible refine i_orV ?_ | with_reducible refine i_notV ?_
  | with_reducible refine i_cons ?_ | with_reducible refine i_nil ?_ | with_reducible refine i_cb ?_ | with_reducible refine i_call ?_ | with_reducible refine i_bl ?_
  | with_reducible refine i_tup ?_ | with_reducible refine i_lst ?_ | with_reducible refine i_par ?_ | with_reducible refine i_gcons ?_ | with_reducible refine i_gnil ?_
  | with_reducible refine And.intro (rfl : V.non = V.non) ?_ | with_reducible refine i_ixT (by assumption) rfl ?_ | with_reducible refine i_ixL (by assumption) rfl ?_ | with_reducible refine i_gtup (by assumption) rfl ?_
  | with_reducible refine i_gsub ?_
  | with_reducible refine Or.inl (Exists.intro _ (And.intro (rfl : [V.int _] = [V.int _]) ?_)) | with_reducible refine Exists.intro _ (And.intro (rfl : [V.int _] = [V.int _]) ?_)
  | with_reducible refine Or.inr (Exists.intro _ (And.intro (rfl : [V.bl _] = [V.bl _]) ?_))
  | with_reducible refine Exists.intro _ (Exists.intro _ (And.intro (rfl : [V.int _, V.int _] = [V.int _, V.int _]) ?_))
  | with_reducible refine Exists.intro _ (Exists.intro _ (And.intro (rfl : [V.ref _] = [V.ref _]) (And.intro (Or.inl (SqL.of (by assumption))) ?_)))
  | with_reducible refine i_rI (show (0 : Int) < _ by assumption) ?_ | with_reducible refine i_rI (show (0 : Int) < _ by decide) ?_
  | with_reducible refine i_rI (pow_ok (Nat.le_of_ble_eq_true rfl) (Nat.le_of_ble_eq_true rfl)) ?_
  | with_reducible refine i_rI (cmulL rfl) ?_))
/-! ### the columns of two filters -/
theorem withTx_nodup {l : List Str} {k : Str} (h : l.Nodup) : (withTx l k).Nodup := by
  unfold withTx
  split
  · exact h
  · rename_i z
    exact List.nodup_cons.mpr ⟨z, h⟩
theorem onceTx_nodup : ∀ (xs l : List Str), l.Nodup → (onceTx l xs).Nodup
  | [], _, h => h
  | _ :: ys, _, h => onceTx_nodup ys _ (withTx_nodup h)
/-- a tuple of texts, ascending, each once: these -/
structure ColsOk (cs : List Str) (m : Str → Prop) (n : Nat) : Prop where
  up : PyProof.Rows.sortedS cs = true
  nd : cs.Nodup
  mem : ∀ c, c ∈ cs ↔ m c
  len : cs.length ≤ n
theorem i_txSet {K : PySem.W.Frag} {P : Program} {w : World} {H : Hp} {u : Addr} {xs : List Str} {R : VK} (hu : H u = some (.tup (xs.map V.str))) (hz : xs.length ≤ 1000) (k : ∀ b H2, Same H H2 → H2 b = some (TxO P w b (onceTx [] xs)) → R (.ref b) H2) : rTxSet K P w [.ref u] H R := by
  refine ⟨u, xs, rfl, SqT.of hu, hz, fun b hb => ?_⟩
  obtain ⟨H2, e2, s2, h2⟩ := new_heap (o := TxO P w b (onceTx [] xs)) hb
  rw [e2]
  exact k b H2 s2 h2
theorem i_txSort {P : Program} {w : World} {H : Hp} {b : Addr} {xs : List Str} {R : VK} (hb : H b = some (TxO P w b (onceTx [] xs))) (hz : xs.length < 64)
    (k : ∀ l H2, ∀ zs : List Str, Same H H2 → H2 l = some (.lst (zs.map V.str)) → ColsOk zs (fun c => c ∈ xs) xs.length → R (.ref l) H2) : rTxSorted P w [.ref b] H R := by
  have le := onceTx_len xs []
  have z0 : ([] : List Str).length = 0 := rfl
  refine ⟨b, onceTx [] xs, rfl, hb, by omega, fun zs l pe so hl => ?_⟩
  obtain ⟨H3, e3, s3, h3⟩ := new_heap (o := .lst (zs.map V.str)) hl
  rw [e3]
  refine k l H3 zs s3 h3 ⟨so, pe.nodup_iff.mpr (onceTx_nodup _ _ List.nodup_nil), fun c => ?_, by rw [pe.length_eq]; omega⟩
  rw [pe.mem_iff, onceTx_mem]
  simp
section
variable {P : Program} {w : World} {K : PySem.W.Frag} {mg : Str → Option Value} {base : Heap}
abbrev s_all_columns : Stmt := top 15
theorem sc_all_columns : FnScope ["one", "other"] ["one", "other"] (defScope s_all_columns) := ⟨rfl, rfl, rfl, by decide +kernel, rfl, by decide +kernel, by decide +kernel⟩
def sp_all_columns : Sp := fun vs H Q _ => ∃ (p q : Addr) (xs ys : List Str), vs = [.ref p, .ref q] ∧ H p = some (.tup (xs.map V.str)) ∧ H q = some (.tup (ys.map V.str)) ∧ xs.length + ys.length < 64 ∧
  ∀ (r : Addr) (H' : Hp) (zs : List Str), Same H H' → H' r = some (.tup (zs.map V.str)) → ColsOk zs (fun c => c ∈ xs ∨ c ∈ ys) (xs.length + ys.length) → Q (.ref r) H'
theorem ok_all_columns {f : Addr} {fd : FuncData} (F : Fun K "all_columns" "all_columns" s_all_columns f fd) (z_tuple : mg "tuple" = none) (z_sorted : mg "sorted" = none) (z_set : mg "set" = none) : FnOk P w K mg base CX0 1 f fd ["one", "other"] sp_all_columns := by
  refine F.ok sc_all_columns (fun vs H Q E h => ?_) (fun cdv A outer s H vs Q E hr h => ?_)
  · obtain ⟨p, q, xs, ys, rfl, _⟩ := h
    rfl
  · obtain ⟨p, q, xs, ys, rfl, hp, hq, hz, k⟩ := h
    refine ⟨_, (pss_one (ps_ret (pe_callTy call_tuple_of (by rfl) z_tuple (by decide +kernel) (pa_cons (pe_callB (cr_txSorted rfl) (by rfl) z_sorted (by decide +kernel) (pa_cons (pe_callTy (cr_txSet rfl) (by rfl) z_set (by decide +kernel) (pa_cons (pe_op op_catA (pv 0) (pv 1)) pa_nil)) pa_nil)) pa_nil)))), ?_⟩
    have fin : ∀ (l : Addr) (H3 : Hp) (zs : List Str), Same H H3 → H3 l = some (.lst (zs.map V.str)) → ColsOk zs (fun c => c ∈ xs ++ ys) (xs ++ ys).length → ∀ r, H3 r = none → Q (.ref r) (upd H3 r (.tup (zs.map V.str))) := by
      intro l H3 zs s3 h3 ok r hr
      obtain ⟨H4, e4, s4, h4⟩ := new_heap (o := .tup (zs.map V.str)) hr
      rw [e4]
      exact k r H4 zs (fun a o e => s4 _ _ (s3 _ _ e)) h4 ⟨ok.up, ok.nd, fun c => (ok.mem c).trans List.mem_append, by have := ok.len; rw [List.length_append] at this; exact this⟩
    have hz2 : (xs ++ ys).length < 64 := by rw [List.length_append]; exact hz
    walk_at "rd"
    refine ⟨p, q, xs.map V.str, ys.map V.str, rfl, rfl, SqT.of hp, SqT.of hq, size_of (by simp; omega), fun e => ?_, fun _ e => ?_, fun _ _ u hu => ?_⟩
    · have hx : xs = [] := List.map_eq_nil_iff.mp e
      subst hx
      walk_at "rd"
      refine i_txSet hq (by simp at hz; omega) fun b H2 s2 h2 => ?_
      walk_at "rd"
      refine i_txSort h2 (by simpa using hz) fun l H3 zs s3 h3 ok => ?_
      walk_at "rd"
      exact ⟨l, _, rfl, .inl ⟨SqL.of h3, fin l H3 zs (fun a o e => s3 _ _ (s2 _ _ e)) h3 ok⟩⟩
    · have hy : ys = [] := List.map_eq_nil_iff.mp e
      subst hy
      walk_at "rd"
      refine i_txSet hp (by simp at hz; omega) fun b H2 s2 h2 => ?_
      walk_at "rd"
      refine i_txSort h2 (by simpa using hz) fun l H3 zs s3 h3 ok => ?_
      walk_at "rd"
      rw [List.append_nil] at fin
      exact ⟨l, _, rfl, .inl ⟨SqL.of h3, fin l H3 zs (fun a o e => s3 _ _ (s2 _ _ e)) h3 ok⟩⟩
    · rw [← List.map_append]
      obtain ⟨H1, e1, s1, h1⟩ := new_heap (o := .tup ((xs ++ ys).map V.str)) hu
      rw [e1]
      walk_at "rd"
      refine i_txSet h1 (by omega) fun b H2 s2 h2 => ?_
      walk_at "rd"
      refine i_txSort h2 hz2 fun l H3 zs s3 h3 ok => ?_
      walk_at "rd"
      exact ⟨l, _, rfl, .inl ⟨SqL.of h3, fin l H3 zs (fun a o e => s3 _ _ (s2 _ _ (s1 _ _ e))) h3 ok⟩⟩
end
end Spk.Fi

set_option Elab.async false
set_option linter.all false
set_option maxRecDepth 100000
set_option maxHeartbeats 1000000
namespace Spk.Fi
open PySem L2 Spk
local macro_rules | `(tactic| walk_at "rd") => `(tactic| repeat (first
  | with_reducible refine i_seq ?_ | with_reducible refine i_asg ?_ | with_reducible refine i_ret ?_ | with_reducible refine i_ifS ?_ | with_reducible refine i_if ?_
  | with_reducible refine i_for ?_ | with_reducible refine i_iL ?_ | with_reducible refine i_iT ?_ | with_reducible refine i_ckw ?_ | with_reducible refine i_cm ?_ | with_reducible refine And.intro (rfl : V.ref _ = V.ref _) ?_ | with_reducible refine i_rng1 ?_ | with_reducible refine i_bm ?_ | with_reducible refine i_bm0 ?_
  | with_reducible refine i_drop ?_ | with_reducible refine i_next ?_
  | with_reducible refine i_var rfl ?_ | with_reducible refine i_c ?_ | with_reducible refine i_op ?_ | with_reducible refine i_un ?_ | with_reducible refine i_name ?_
  | with_reducible refine i_rI0 ?_ | with_reducible refine i_rU ?_ | with_reducible refine i_rEq rfl ?_ | with_reducible refine i_rNe rfl ?_
  | with_reducible refine i_test ?_ | with_reducible refine i_tB ?_ | with_reducible refine i_and ?_ | with_reducible refine i_or ?_ | with_reducible refine i_not ?_
  | with_reducible refine i_andV ?_ | with_reducible refine i_orV ?_ | with_reducible refine i_notV ?_
  | with_reducible refine i_cons ?_ | with_reducible refine i_nil ?_ | with_reducible refine i_cb ?_ | with_reducible refine i_call ?_ | with_reducible refine i_bl ?_
  | with_reducible refine i_tup ?_ | with_reducible refine i_lst ?_ | with_reducible refine i_par ?_ | with_reducible refine i_gcons ?_ | with_reducible refine i_gnil ?_
  | with_reducible refine And.intro (rfl : V.non = V.non) ?_ | with_reducible refine i_ixT (by assumption) rfl ?_ | with_reducible refine i_ixL (by assumption) rfl ?_ | with_reducible refine i_gtup (by assumption) rfl ?_
  | with_reducible refine i_gsub ?_
  | with_reducible refine Or.inl (Exists.intro _ (And.intro (rfl : [V.int _] = [V.int _]) ?_)) | with_reducible refine Exists.intro _ (And.intro (rfl : [V.int _] = [V.int _]) ?_)
  | with_reducible refine Or.inr (Exists.intro _ (And.intro (rfl : [V.bl _] = [V.bl _]) ?_))
  | with_reducible refine Exists.intro _ (Exists.intro _ (And.intro (rfl : [V.int _, V.int _] = [V.int _, V.int _]) ?_))
  | with_reducible refine Exists.intro _ (Exists.intro _ (And.intro (rfl : [V.ref _] = [V.ref _]) (And.intro (Or.inl (SqL.of (by assumption))) ?_)))
  | with_reducible refine i_rI (show (0 : Int) < _ by assumption) ?_ | with_reducible refine i_rI (show (0 : Int) < _ by decide) ?_
  | with_reducible refine i_rI (pow_ok (Nat.le_of_ble_eq_true rfl) (Nat.le_of_ble_eq_true rfl)) ?_
  | with_reducible refine i_rI (cmulL rfl) ?_))
/-! ### the class Filter -/
/-- what the text says of the class -/
structure ClsF (K : PySem.W.Frag) (mg : Str → Option Value) (D fI : Addr) : Prop where
  cl : Cls K D
  nT : NoAttr K D "tree"
  nC : NoAttr K D "columns"
  M : Mk K D fI
  g_CF : mg "Filter" = some (.ref D)
/-- a filter with this tree -/
def Fil (D : Addr) (H : Hp) (x : Addr) (t : Tr) : Prop := ∃ dx v q cs, H x = some (.ins D dx [("tree", v), ("columns", .ref q)]) ∧ TreeAt H t v ∧ H q = some (.tup (cs.map V.str)) ∧ ColsOk cs (fun c => c ∈ t.cols) t.many
theorem Fil.up {D : Addr} {H H' : Hp} {x : Addr} {t : Tr} (e : Same H H') (h : Fil D H x t) : Fil D H' x t := by
  obtain ⟨dx, v, q, cs, h1, h2, h3, h4⟩ := h
  exact ⟨dx, v, q, cs, e _ _ h1, h2.up e, e _ _ h3, h4⟩
theorem Fil.keep {D : Addr} {H H' : Hp} {x : Addr} {t : Tr} (e : Keep H H') (h : Fil D H x t) : Fil D H' x t := by
  obtain ⟨dx, v, q, cs, h1, h2, h3, h4⟩ := h
  exact ⟨dx, v, q, cs, e _ _ rfl h1, h2.keep e, e _ _ rfl h3, h4⟩
theorem lk_tree {v u : V} : ([("tree", v), ("columns", u)] : List (Str × V)).lookup ("tree" : Str) = some v := by
  show (match (("tree" : Str) == "tree") with | true => some v | false => List.lookup ("tree" : Str) [(("columns" : Str), u)]) = some v
  rw [beq_self_eq_true]
theorem lk_columns {v u : V} : ([("tree", v), ("columns", u)] : List (Str × V)).lookup ("columns" : Str) = some u := by
  show (match (("columns" : Str) == "tree") with | true => some v | false => (match (("columns" : Str) == "columns") with | true => some u | false => none)) = some u
  rw [show (("columns" : Str) == "tree") = false from rfl, beq_self_eq_true]
section
variable {P : Program} {w : World} {K : PySem.W.Frag} {mg : Str → Option Value} {base : Heap} {C fI fE D fJ : Addr}
abbrev s_Filter__init : Stmt := inClass (top 14) 0
theorem sc_Filter__init : FnScope ["self", "tree", "columns"] ["self", "tree", "columns"] (defScope s_Filter__init) := ⟨rfl, rfl, rfl, by decide +kernel, rfl, by decide +kernel, by decide +kernel⟩
def sp_finit (D : Addr) : Sp := fun vs H Q _ => ∃ x dx v q, vs = [.ref x, v, q] ∧ H x = some (.ins D dx []) ∧ Q .non (upd H x (.ins D dx [("tree", v), ("columns", q)]))
theorem ok_finit {fd : FuncData} (F : Fun K "__init__" "Filter.__init__" s_Filter__init fJ fd) (T : ClsF K mg D fJ) : FnOk P w K mg base CX0 1 fJ fd ["self", "tree", "columns"] (sp_finit D) := by
  refine F.ok sc_Filter__init (fun vs H Q E h => ?_) (fun cdv A outer s H vs Q E hr h => ?_)
  · obtain ⟨x, dx, v, q, rfl, _⟩ := h
    rfl
  · obtain ⟨x, dx, v, q, rfl, hx, k⟩ := h
    refine ⟨_, (pss_cons (ps_fld (pv 0) (pv 1) rfl)
 (pss_one (ps_fld (pv 0) (pv 2) rfl))), ?_⟩
    refine ⟨_, rfl, _, rfl, x, D, dx, [], rfl, hx, T.cl, T.nT, (by show 0 < 1000; decide), ?_⟩
    have h1 : upd H x (.ins D dx [("tree", v)]) x = some (.ins D dx [("tree", v)]) := upd_same
    refine ⟨_, rfl, _, rfl, x, D, dx, [("tree", v)], rfl, h1, T.cl, T.nC, (by show 1 < 1000; decide), ?_⟩
    have e : upd (upd H x (.ins D dx [("tree", v)])) x (.ins D dx [("tree", v), ("columns", q)]) = upd H x (.ins D dx [("tree", v), ("columns", q)]) := L2.upd_upd
    rw [← e] at k
    exact k
/-- the promise of __init__ where a filter is made -/
abbrev spJ (D : Addr) : Sp := fun vs H Q E => sp_finit D (vs ++ []) H Q E
/-- «a new filter with this tree» -/
abbrev NewF (D : Addr) (H : Hp) (Q : VK) (t : Tr) : Prop := ∀ x H', Same H H' → Fil D H' x t → Q (.ref x) H'
theorem mk_fil {H : Hp} {v : V} {q : Addr} {t : Tr} {cs : List Str} {Q : VK} (ht : TreeAt H t v) (hq : H q = some (.tup (cs.map V.str))) (ok : ColsOk cs (fun c => c ∈ t.cols) t.many) (k : NewF D H Q t) :
    ∀ x dx, H x = none → H dx = none → dx ≠ x → spJ D (V.ref x :: [v, .ref q]) (upd (upd H dx (.own x)) x (.ins D dx [])) (fun u H2 => u = .non ∧ Q (.ref x) H2) E0 := by
  intro x dx hx hdx hne
  refine ⟨x, dx, v, .ref q, rfl, upd_same, rfl, ?_⟩
  have sm : Same H (upd (upd (upd H dx (.own x)) x (.ins D dx [])) x (.ins D dx [("tree", v), ("columns", .ref q)])) := fun b o e => by
    rw [upd_ne (ne_of_none e hx), upd_ne (ne_of_none e hx), upd_ne (ne_of_none e hdx)]
    exact e
  exact k x _ sm ⟨dx, v, q, cs, upd_same, ht.up sm, sm _ _ hq, ok⟩
theorem cols_nil (n : Nat) : ColsOk [] (fun c => c ∈ ([] : List Str)) n := ⟨rfl, List.nodup_nil, fun c => Iff.rfl, Nat.zero_le _⟩
theorem cols_one (x : Str) : ColsOk [x] (fun c => c ∈ [x]) 1 := ⟨rfl, List.nodup_cons.mpr ⟨List.not_mem_nil, List.nodup_nil⟩, fun c => Iff.rfl, Nat.le_refl _⟩
abbrev s_Filter_within : Stmt := inClass (top 14) 1
theorem sc_Filter_within : FnScope ["cls", "column", "ranges"] ["cls", "column", "ranges"] (defScope s_Filter_within) := ⟨rfl, rfl, rfl, by decide +kernel, rfl, by decide +kernel, by decide +kernel⟩
def sp_fwithin (C D : Addr) : Sp := fun vs H Q _ => ∃ c r ps, vs = [.ref D, .str c, .ref r] ∧ Rng C H r ps ∧ NewF D H Q (.wi c ps)
theorem ok_fwithin {f : Addr} {fd fdI : FuncData} (F : Fun K "within" "Filter.within" s_Filter_within f fd) (FI : Fun K "__init__" "Filter.__init__" s_Filter__init fJ fdI) (B_init : Binds K fdI ["self", "tree", "columns"] []) (T : ClsF K mg D fJ) (TC : ClsT K mg C fI fE) :
    FnOk P w K mg base CX0 3 f fd ["cls", "column", "ranges"] (sp_fwithin C D) := by
  have RI : FnR P w K mg base CX0 1 fJ (spJ D) := FnOk.raw (ok_finit FI T) B_init .nil
  have M := T.M
  refine F.ok sc_Filter_within (fun vs H Q E h => ?_) (fun cdv A outer s H vs Q E hr h => ?_)
  · obtain ⟨c, r, ps, rfl, _⟩ := h
    rfl
  · obtain ⟨c, r, ps, rfl, ⟨dx, t, hx, hp, ca⟩, k⟩ := h
    refine ⟨_, (pss_one (ps_ret (pe_makeL (i := 0) M RI (hr.mono (by decide)) rfl (Or.inl rfl) pass0 (pa_cons (pe_tup (pa_cons pe_str (pa_cons (pv 1) (pa_cons (pe_fld (pv 2) rfl) pa_nil)))) (pa_cons (pe_tup (pa_cons (pv 1) pa_nil)) pa_nil))))), ?_⟩
    walk_at "rd"
    refine ⟨rfl, ?_⟩
    unfold StX.tMakeR
    walk_at "rd"
    refine ⟨_, rfl, r, C, dx, _, _, rfl, hx, TC.cl, TC.nP, lk_parts, ?_⟩
    walk_at "rd"
    refine ⟨size_of (Nat.le_of_ble_eq_true rfl), fun p h0 => ?_⟩
    obtain ⟨H1, e1, s1, h1⟩ := new_heap (o := .tup [.str "within", .str c, .ref t]) h0
    rw [e1]
    walk_at "rd"
    refine ⟨size_of (Nat.le_of_ble_eq_true rfl), fun p' hp' => ?_⟩
    obtain ⟨H2, e2, s2, h2⟩ := new_heap (o := .tup [.str c]) hp'
    rw [e2]
    walk_at "rd"
    have tr : TreeAt H2 (.wi c ps) (.ref p) := ⟨p, t, rfl, s2 _ _ h1, (hp.up s1).up s2, ca⟩
    exact mk_fil (cs := [c]) tr h2 (cols_one c) fun x H' s3 hf => k x H' (fun b o z => s3 _ _ (s2 _ _ (s1 _ _ z))) hf
abbrev s_Filter_always : Stmt := inClass (top 14) 3
theorem sc_Filter_always : FnScope ["cls"] ["cls"] (defScope s_Filter_always) := ⟨rfl, rfl, rfl, by decide +kernel, rfl, by decide +kernel, by decide +kernel⟩
def sp_falways (D : Addr) : Sp := fun vs H Q _ => vs = [.ref D] ∧ NewF D H Q .al
theorem ok_falways {f : Addr} {fd fdI : FuncData} (F : Fun K "always" "Filter.always" s_Filter_always f fd) (FI : Fun K "__init__" "Filter.__init__" s_Filter__init fJ fdI) (B_init : Binds K fdI ["self", "tree", "columns"] []) (T : ClsF K mg D fJ) :
    FnOk P w K mg base CX0 3 f fd ["cls"] (sp_falways D) := by
  have RI : FnR P w K mg base CX0 1 fJ (spJ D) := FnOk.raw (ok_finit FI T) B_init .nil
  have M := T.M
  refine F.ok sc_Filter_always (fun vs H Q E h => ?_) (fun cdv A outer s H vs Q E hr h => ?_)
  · obtain ⟨rfl, _⟩ := h
    rfl
  · obtain ⟨rfl, k⟩ := h
    refine ⟨_, (pss_one (ps_ret (pe_makeL (i := 0) M RI (hr.mono (by decide)) rfl (Or.inl rfl) pass0 (pa_cons (pe_tup (pa_cons pe_str pa_nil)) (pa_cons (pe_tup pa_nil) pa_nil))))), ?_⟩
    walk_at "rd"
    refine ⟨rfl, ?_⟩
    unfold StX.tMakeR
    walk_at "rd"
    refine ⟨size_of (Nat.le_of_ble_eq_true rfl), fun p h0 => ?_⟩
    obtain ⟨H1, e1, s1, h1⟩ := new_heap (o := .tup [.str "always"]) h0
    rw [e1]
    walk_at "rd"
    refine ⟨Nat.zero_le _, fun p' hp' => ?_⟩
    obtain ⟨H2, e2, s2, h2⟩ := new_heap (o := .tup []) hp'
    rw [e2]
    walk_at "rd"
    have tr : TreeAt H2 .al (.ref p) := ⟨p, rfl, s2 _ _ h1⟩
    exact mk_fil (cs := []) tr h2 (cols_nil 1) fun x H' s3 hf => k x H' (fun b o z => s3 _ _ (s2 _ _ (s1 _ _ z))) hf
abbrev s_Filter__and : Stmt := inClass (top 14) 5
theorem sc_Filter__and : FnScope ["self", "other"] ["self", "other"] (defScope s_Filter__and) := ⟨rfl, rfl, rfl, by decide +kernel, rfl, by decide +kernel, by decide +kernel⟩
def sp_fand (D : Addr) : Sp := fun vs H Q _ => ∃ a b l r, vs = [.ref a, .ref b] ∧ Fil D H a l ∧ Fil D H b r ∧ l.many + r.many < 64 ∧ NewF D H Q (.an l r)
theorem ok_fand {f fA : Addr} {fd fdI fdA : FuncData} (F : Fun K "__and__" "Filter.__and__" s_Filter__and f fd) (FI : Fun K "__init__" "Filter.__init__" s_Filter__init fJ fdI) (B_init : Binds K fdI ["self", "tree", "columns"] []) (T : ClsF K mg D fJ)
    (F_all_columns : Fun K "all_columns" "all_columns" s_all_columns fA fdA) (B_all_columns : Binds K fdA ["one", "other"] []) (g_all_columns : mg "all_columns" = some (.ref fA)) (G_all_columns : FnOk P w K mg base CX0 1 fA fdA ["one", "other"] sp_all_columns) :
    FnOk P w K mg base CX0 3 f fd ["self", "other"] (sp_fand D) := by
  have RI : FnR P w K mg base CX0 1 fJ (spJ D) := FnOk.raw (ok_finit FI T) B_init .nil
  have M := T.M
  have g_CF := T.g_CF
  refine F.ok sc_Filter__and (fun vs H Q E h => ?_) (fun cdv A outer s H vs Q E hr h => ?_)
  · obtain ⟨a, b, l, r, rfl, _⟩ := h
    rfl
  · obtain ⟨a, b, l, r, rfl, ⟨dx, v, p, cs, ha, ta, hp, oa⟩, ⟨dy, u, q, ds, hb, tb, hq, ob⟩, hz, k⟩ := h
    refine ⟨_, (pss_one (ps_ret (StX.pe_makeR M RI (hr.mono (by decide)) rfl g_CF pass0 (pa_cons (pe_tup (pa_cons pe_str (pa_cons (pe_fld (pv 0) rfl) (pa_cons (pe_fld (pv 1) rfl) pa_nil)))) (pa_cons (pe_call G_all_columns (hr.mono (by decide)) rfl g_all_columns F_all_columns.kp B_all_columns .nil pass0 (pa_cons (pe_fld (pv 0) rfl) (pa_cons (pe_fld (pv 1) rfl) pa_nil))) pa_nil))))), ?_⟩
    unfold StX.tMakeR
    walk_at "rd"
    refine ⟨_, rfl, a, D, dx, _, _, rfl, ha, T.cl, T.nT, lk_tree, ?_⟩
    walk_at "rd"
    refine ⟨_, rfl, b, D, dy, _, _, rfl, hb, T.cl, T.nT, lk_tree, ?_⟩
    walk_at "rd"
    refine ⟨size_of (Nat.le_of_ble_eq_true rfl), fun t h0 => ?_⟩
    obtain ⟨H1, e1, s1, h1⟩ := new_heap (o := .tup [.str "and", v, u]) h0
    rw [e1]
    walk_at "rd"
    refine ⟨_, rfl, a, D, dx, _, _, rfl, s1 _ _ ha, T.cl, T.nC, lk_columns, ?_⟩
    walk_at "rd"
    refine ⟨_, rfl, b, D, dy, _, _, rfl, s1 _ _ hb, T.cl, T.nC, lk_columns, ?_⟩
    walk_at "rd"
    refine ⟨p, q, cs, ds, rfl, s1 _ _ hp, s1 _ _ hq, by have := oa.len; have := ob.len; omega, fun m H2 es s2 h2 oe => ?_⟩
    walk_at "rd"
    have tr : TreeAt H2 (.an l r) (.ref t) := ⟨t, v, u, rfl, s2 _ _ h1, (ta.up s1).up s2, (tb.up s1).up s2⟩
    refine mk_fil (cs := es) tr h2 ⟨oe.up, oe.nd, fun c => ?_, ?_⟩ fun x H' s3 hf => k x H' (fun b o z => s3 _ _ (s2 _ _ (s1 _ _ z))) hf
    · rw [oe.mem, oa.mem, ob.mem]
      exact List.mem_append.symm
    · have := oe.len
      have := oa.len
      have := ob.len
      simp only [Tr.many]
      omega
abbrev s_Filter__invert : Stmt := inClass (top 14) 7
theorem sc_Filter__invert : FnScope ["self"] ["self"] (defScope s_Filter__invert) := ⟨rfl, rfl, rfl, by decide +kernel, rfl, by decide +kernel, by decide +kernel⟩
def sp_finv (D : Addr) : Sp := fun vs H Q _ => ∃ a t, vs = [.ref a] ∧ Fil D H a t ∧ NewF D H Q (.no t)
theorem ok_finv {f : Addr} {fd fdI : FuncData} (F : Fun K "__invert__" "Filter.__invert__" s_Filter__invert f fd) (FI : Fun K "__init__" "Filter.__init__" s_Filter__init fJ fdI) (B_init : Binds K fdI ["self", "tree", "columns"] []) (T : ClsF K mg D fJ) :
    FnOk P w K mg base CX0 3 f fd ["self"] (sp_finv D) := by
  have RI : FnR P w K mg base CX0 1 fJ (spJ D) := FnOk.raw (ok_finit FI T) B_init .nil
  have M := T.M
  have g_CF := T.g_CF
  refine F.ok sc_Filter__invert (fun vs H Q E h => ?_) (fun cdv A outer s H vs Q E hr h => ?_)
  · obtain ⟨a, t, rfl, _⟩ := h
    rfl
  · obtain ⟨a, t, rfl, ⟨dx, v, p, cs, ha, ta, hp, oa⟩, k⟩ := h
    refine ⟨_, (pss_one (ps_ret (StX.pe_makeR M RI (hr.mono (by decide)) rfl g_CF pass0 (pa_cons (pe_tup (pa_cons pe_str (pa_cons (pe_fld (pv 0) rfl) pa_nil))) (pa_cons (pe_fld (pv 0) rfl) pa_nil))))), ?_⟩
    unfold StX.tMakeR
    walk_at "rd"
    refine ⟨_, rfl, a, D, dx, _, _, rfl, ha, T.cl, T.nT, lk_tree, ?_⟩
    walk_at "rd"
    refine ⟨size_of (Nat.le_of_ble_eq_true rfl), fun q h0 => ?_⟩
    obtain ⟨H1, e1, s1, h1⟩ := new_heap (o := .tup [.str "not", v]) h0
    rw [e1]
    walk_at "rd"
    refine ⟨_, rfl, a, D, dx, _, _, rfl, s1 _ _ ha, T.cl, T.nC, lk_columns, ?_⟩
    walk_at "rd"
    have tr : TreeAt H1 (.no t) (.ref q) := ⟨q, v, rfl, h1, ta.up s1⟩
    exact mk_fil (cs := cs) tr (s1 _ _ hp) oa fun x H' s3 hf => k x H' (fun b o z => s3 _ _ (s1 _ _ z)) hf
end
end Spk.Fi

set_option Elab.async false
set_option linter.all false
set_option maxRecDepth 100000
set_option maxHeartbeats 1000000
namespace Spk
open PySem PySem.Spec PyProof.Rows PySem.W L2
/-! ## sorted(l), l a list of tuples of integers -/
/-- a key as data -/
abbrev tupD (ns : List Int) : PyData := .tuple (ns.map PyData.int)
/-- the keys in their order -/
def sortN (nss : List (List Int)) : List (List Int) := nss.mergeSort (dataLe false tupD)
theorem sortN_perm (nss : List (List Int)) : (sortN nss).Perm nss := List.mergeSort_perm ..
/-- the tuples that stand at these places -/
abbrev TupsN (H : Hp) (bs : List Addr) (nss : List (List Int)) : Prop := Paired (fun b ns => H b = some (.tup (ns.map V.int))) bs nss
def rSortN (K : Frag) : List V → Hp → VK → Prop := fun vs H Q => ∃ (l : Addr) (bs : List Addr) (nss : List (List Int)), vs = [.ref l] ∧ SqL K H l (bs.map V.ref) ∧ TupsN H bs nss ∧ (∀ ns, ns ∈ nss → ns ≠ []) ∧
  ∀ p bs', H p = none → TupsN H bs' (sortN nss) → Q (.ref p) (upd H p (.lst (bs'.map V.ref)))
theorem dpsN {K : Frag} {H : Hp} : ∀ ns : List Int, DpAll K H (ns.map V.int) (ns.map PyData.int)
  | [] => .nil
  | n :: ns => .cons (.int n) (dpsN ns)
theorem depN : ∀ ns : List Int, PyData.depthAll (ns.map PyData.int) ≤ 1
  | [] => by simp [PyData.depthAll]
  | n :: ns => by
    have := depN ns
    simp only [List.map_cons, PyData.depthAll, PyData.depth]
    omega
theorem backN {H : Hp} : ∀ {out : List Value} {nss : List (List Int)}, EachIs (fun v ns => ∃ b, v = Value.ref b ∧ H b = some (.tup (ns.map V.int))) out nss → ∃ bs : List Addr, out = bs.map Value.ref ∧ TupsN H bs nss := by
  intro out nss h
  induction h with
  | nil => exact ⟨[], rfl, .nil⟩
  | cons r _ ih =>
    obtain ⟨b, rfl, hb⟩ := r
    obtain ⟨bs, rfl, t⟩ := ih
    exact ⟨b :: bs, rfl, .cons hb t⟩
theorem eachN {R : Value → List Int → Prop} {H : Hp} (f : ∀ b ns, H b = some (.tup (ns.map V.int)) → R (.ref b) ns) : ∀ {bs : List Addr} {nss : List (List Int)}, TupsN H bs nss → EachIs R (bs.map Value.ref) nss
  | _, _, .nil => .nil
  | _, _, .cons r t => .cons (f _ _ r) (eachN f t)
section
variable {X : Cx}
theorem cr_sortN (hu : X.A.units + 8 < cLine) : CallR X (.builtin "sorted") (rSortN X.K) := by
  intro pins s σ H vs us Q I r h
  obtain ⟨l, bs, nss, rfl, hl, pb, hz, q⟩ := h
  obtain ⟨its, rv, il, z⟩ := I.list hl
  rw [Vals.ref1 r]
  have e := refs_at rv
  subst e
  have hlen : bs.length = nss.length := Paired.length pb
  rw [List.length_map] at z
  refine sorted_data (R := fun v ns => ∃ b, v = Value.ref b ∧ H b = some (.tup (ns.map V.int))) (enc := tupD) (bs := nss) il.isList (eachN (fun b ns hb => ⟨b, rfl, hb⟩) pb)
    (eachN (fun b ns hb => Dp.reads I (tupD ns) (.ref b) (.ref b) (.tup (SqT.of hb) (dpsN ns)) rfl) pb) (AllAlike.of fun a b => alike_ints a b) (.inl fun d hd => ?_) (by omega) (fun ns hn => ?_) fun out ho eo => ?_
  · obtain ⟨ns, hn, rfl⟩ := List.mem_map.mp hd
    cases ns with
    | nil => exact absurd rfl (hz _ hn)
    | cons n ns => exact ⟨.int n, ns.map PyData.int, rfl⟩
  · have := depN ns
    simp only [tupD, PyData.depth]
    omega
  · obtain ⟨bs', rfl, t⟩ := backN eo
    obtain ⟨ep, he'⟩ := PyProof.Rows.sortedAll_at s.heap (bs.map Value.ref) (List.toArray (bs'.map Value.ref))
    have zl : (bs'.map V.ref).length ≤ sizeLine := by
      rw [List.length_map] at ho ⊢
      omega
    exact ⟨.ref _, upd H (s.heap.objs.size + 1) (.lst (bs'.map V.ref)), I.laid (t' := s.toks) (fun _ _ => PyProof.Rows.sortedAll_old) (Nat.le_succ _) ⟨zl, bs'.map Value.ref, ep, vals_refs bs', he'⟩, rfl, q _ bs' (I.hok.fresh (Nat.le_succ _)) t⟩
end
end Spk

set_option Elab.async false
set_option linter.all false
set_option maxRecDepth 100000
set_option maxHeartbeats 1000000
namespace Spk
open PySem PySem.Spec PyProof.Rows PySem.W L2
/-! ## dicts whose keys are tuples: del d[k], d.pop(k), d != {} -/
section
variable {K : Type} [DecidableEq K]
theorem kt_out {H : Hp} (k : List L2.Key) {kvs : List (List L2.Key × V)} {xs : List (List L2.Key × Addr × Value)} (r : KT H kvs xs) : KT H (dropK kvs k) (withoutH xs k) := by
  induction r with
  | nil => exact .nil
  | @cons p q kvs xs h t ih =>
    by_cases e : p.1 = k
    · have e2 : q.1 = k := h.1.symm.trans e
      have z1 : dropK (p :: kvs) k = dropK kvs k := List.filter_cons_of_neg (by simp [e])
      have z2 : withoutH (q :: xs) k = withoutH xs k := List.filter_cons_of_neg (by simp [e2])
      rw [z1, z2]
      exact ih
    · have e2 : ¬ q.1 = k := fun z => e (h.1.trans z)
      have z1 : dropK (p :: kvs) k = p :: dropK kvs k := List.filter_cons_of_pos (by simp [e])
      have z2 : withoutH (q :: xs) k = q :: withoutH xs k := List.filter_cons_of_pos (by simp [e2])
      rw [z1, z2]
      exact .cons h ih
end
section
variable {X : Cx} {pins : List (Addr × Obj)} {σ : L2.St} {H : Hp} {s : Shared} {a : Addr}
theorem dt_take {kvs : List (List L2.Key × V)} {k : List L2.Key} {xs : List (List L2.Key × Addr × Value)} {h' : Heap} {tk : Nat} (I : Inv X pins σ H s) (ha : H a = some (.dT kvs)) (z : kvs.length ≤ sizeLine) (hd : (a == sysModules) = false) (rel : KT H kvs xs)
    (dd' : h'.DictOfH (tupleKind (mixKind X.prog X.w)) a (withoutH xs k)) (hs : Heap.SameBut a s.heap h') : Inv X pins σ (upd H a (.dT (dropK kvs k))) { s with heap := h', toks := tk } := by
  obtain ⟨o, es, ep, hq, h2, h3, h4, _, h5⟩ := dd'
  exact d_write I (by rw [ha]; exact True.intro) hs ⟨o, hq⟩ ⟨Nat.le_trans (dropK_le kvs k) z, hd, _, (kt_out k rel).keeps (fun c ys ec => (by rw [upd_ne (ne_of ec ha (fun z => nomatch z))]; exact ec)), o, es, ep, hq, h2, h3, h4, h5⟩
theorem dt_there {kvs : List (List L2.Key × V)} {k : List L2.Key} {xs : List (List L2.Key × Addr × Value)} (rel : KT H kvs xs) (l : (valV kvs k).isSome = true) : ∃ v p, valV kvs k = some v ∧ atKey xs k = some p ∧ RelV v p.2 := by
  have r := rel.val k
  cases ev : valV kvs k with
  | none =>
    rw [ev] at l
    cases l
  | some v =>
    rw [ev] at r
    cases ep : atKey xs k with
    | none =>
      rw [ep] at r
      exact r.elim
    | some p =>
      rw [ep] at r
      exact ⟨v, p, rfl, rfl, r⟩
end
section
variable {X : Cx} {o i : Expr} {td ty : TE} {tpos pos : Pos}
/-- del d[k] -/
def sDDelT (td ty : TE) : TS := fun D σ H => td σ H fun x H1 => ty σ H1 fun y H2 => ∃ a kvs k b, x = .ref a ∧ H2 a = some (.dT kvs) ∧ y = .ref b ∧ H2 b = some (.tup (k.map kV)) ∧ (valV kvs k).isSome = true ∧ D.nx σ (upd H2 a (.dT (dropK kvs k)))
theorem ps_ddelT (hu : X.A.units + 1 < cLine) (ho : PE X o td) (hi : PE X i ty) : PS X (.Delete [.Subscript o i tpos] pos) (sDDelT td ty) := by
  refine ⟨fun pins s σ H D I h => ?_⟩
  refine wpAny_Delete (wpAny_deleteEach_cons (wpAny_delete_Subscript (thn (ho.run pins s σ H _ I h) fun u s1 ⟨x, H1, I1, rx, q1⟩ => thn (hi.run pins s1 σ H1 _ I1 q1) fun iv s2 ⟨y, H2, I2, ry, a, kvs, k, b, ex, e, ey, eb, l, q2⟩ => ?_)))
  subst ex ey
  obtain rfl : u = Value.ref a := rx
  obtain rfl : iv = Value.ref b := ry
  obtain ⟨z, hd, xs, rel, dd⟩ := dt_of I2.hok e
  obtain ⟨v, p, _, hp, _⟩ := dt_there rel l
  exact wpAny_delItem_heap (hsz := by rw [← Paired.length rel]; exact z) (tupleKind_room_in1 hu) (key_of I2.hok eb) hd dd hp fun h' dd' hs => wpAny_deleteEach_nil ⟨σ, _, dt_take I2 e z hd rel dd' hs, q2⟩
/-- d.pop(k) -/
def rPopT1 : V → List V → Hp → VK → Prop := fun x xs H Q => ∃ (a : Addr) (kvs : List (List L2.Key × V)) (k : List L2.Key) (b : Addr) (v : V), x = .ref a ∧ xs = [.ref b] ∧ H a = some (.dT kvs) ∧ H b = some (.tup (k.map kV)) ∧
  valV kvs k = some v ∧ Q v (upd H a (.dT (dropK kvs k)))
theorem mt_popT1 (hu : X.A.units + 1 < cLine) : MtR X "dict.pop" rPopT1 := by
  intro pins s σ H x xs v us Q I rx rxs h
  obtain ⟨a, kvs, k, b, v0, rfl, rfl, ha, hb, ev, q⟩ := h
  cases rx
  obtain ⟨u1, rfl, r1⟩ := vals1 rxs
  cases r1
  obtain ⟨z, hd, xs', rel, dd⟩ := dt_of I.hok ha
  obtain ⟨v1, p, ev1, hp, rv⟩ := dt_there rel (by rw [ev]; rfl)
  rw [ev] at ev1
  cases ev1
  exact call_pop_heap (hsz := by rw [← Paired.length rel]; exact z) (.inl rfl) (PySem.F.args_dict_pop_2 _ _) (tupleKind_room_in1 hu) (key_of I.hok hb) hd dd hp fun h' dd' hs => ⟨v0, _, dt_take I ha z hd rel dd' hs, rv, q⟩
/-- d != {} -/
def rNeDT0 : R2 := fun x y H Q => ∃ (a b : Addr) (kvs : List (List L2.Key × V)), x = .ref a ∧ y = .ref b ∧ H a = some (.dT kvs) ∧ H b = some (.dT []) ∧ Q (.bl (!kvs.isEmpty)) H
theorem pairs0 {prog : Program} {w : World} {A : Around} {E : Value → Shared → Prop} {s : Shared} {nm : String} {a b : Addr} {oa ob : Obj} {es es' : Array DictEntry} {ep ep' : Nat} {Q : Bool → Shared → Prop} (ha : (a == sysModules) = false) (hb : (b == sysModules) = false)
    (hoa : s.heap.get? a = some oa) (hda : oa.data = .dict es ep) (hob : s.heap.get? b = some ob) (hdb : ob.data = .dict es' ep') (h0 : es'.size = 0) (h : Q es.isEmpty s) :
    wpAny (model prog w) A (Builtin.Dict.samePairs nm a b) Q E s := by
  unfold Builtin.Dict.samePairs Builtin.Dict.showsAll
  rw [if_neg (show ¬ (a == sysModules) = true by rw [ha]; exact Bool.false_ne_true), if_neg (show ¬ (b == sysModules) = true by rw [hb]; exact Bool.false_ne_true)]
  refine wpAny_bind (wpAny_pure (wpAny_bind (wpAny_pure ?_)))
  refine wpAny_bind (wpAny_dictEntries hoa hda ?_)
  dsimp only
  refine wpAny_bind (wpAny_dictEntries hob hdb ?_)
  by_cases hsz : es.size = es'.size
  · have h1 : es.size = 0 := by omega
    have hE : es.isEmpty = true := by simpa using h1
    rw [hE] at h
    rw [if_neg (by rw [hsz]; simp)]
    refine wpAny_bind (wpAny_dictEpoch hoa hda ?_)
    refine wpAny_bind ?_
    rw [Std.Legacy.Range.forIn_eq_forIn_range']
    simp only [Std.Legacy.Range.size, Nat.sub_zero, Nat.add_sub_cancel, Nat.div_one, h1, List.range'_zero, List.forIn_nil]
    exact wpAny_pure (wpAny_pure h)
  · rw [if_pos (by simpa using hsz)]
    have hE : es.isEmpty = false := by
      rw [Bool.eq_false_iff]
      intro q
      have : es.size = 0 := by simpa using q
      omega
    rw [hE] at h
    exact wpAny_bind (wpAny_rule (wpAny_pure h))
theorem op_neDT0 (hu : X.A.units < cLine) : OpR X (compareOp .NotEq) rNeDT0 := by
  intro pins s σ H x y v u Q I rx ry h
  obtain ⟨a, b, kvs, rfl, rfl, ha, hb, q⟩ := h
  cases rx
  cases ry
  obtain ⟨z, hd, xs, rel, dd⟩ := dt_of I.hok ha
  obtain ⟨z', hd', xs', rel', dd'⟩ := dt_of I.hok hb
  have ta := dd.typeIs
  have tb := dd'.typeIs
  obtain ⟨oa, es, ep, hoa, _, hda, he, _⟩ := dd
  obtain ⟨ob, es', ep', hob, _, hdb, he', _⟩ := dd'
  have l1 : es.size = xs.length := size_of_entries he
  have l2 : es'.size = xs'.length := size_of_entries he'
  have k1 : kvs.length = xs.length := Paired.length rel
  have k2 : ([] : List (List L2.Key × V)).length = xs'.length := Paired.length rel'
  have e0 : es.isEmpty = kvs.isEmpty := by
    rw [Bool.eq_iff_iff]
    simp only [List.isEmpty_iff, Array.isEmpty_iff_size_eq_zero]
    rw [← List.length_eq_zero_iff]
    omega
  refine wpAny_richCompare_same_room (op := .NotEq) ta tb PySem.F.slot_dict_ne (wpAny_call_entry PySem.F.slot_dict_ne ta PySem.F.entry_dict_ne ?_ (PySem.F.args_dict_ne_2 _ _)) hu
  show wpAny _ _ (Builtin.Dict.dictSlotArgs "__ne__" ⟨[.ref a, .ref b], []⟩ >>= _) _ _ s
  refine wpAny_bind ?_
  unfold Builtin.Dict.dictSlotArgs
  refine wpAny_bind (wpAny_notOrdered_dict ta ?_)
  show wpAny _ _ (pure (Value.ref a, Value.ref b)) _ _ s
  refine wpAny_pure ?_
  refine wpAny_bind (wpAny_isInstance (T := "dict") tb PySem.F.sub_dict_dict ?_)
  simp only [Bool.not_true, Bool.false_eq_true, if_false]
  refine wpAny_bind (wpAny_pure (wpAny_bind (wpAny_pure ?_)))
  refine wpAny_bind (pairs0 hd hd' hoa hda hob hdb (by rw [l2]; exact k2.symm) ?_)
  refine wpAny_pure ⟨_, rfl, (fun x => nomatch x), ?_⟩
  refine ⟨_, _, I, ?_, q⟩
  rw [e0]
  cases kvs <;> rfl
end
end Spk

set_option Elab.async false
set_option linter.all false
set_option maxRecDepth 100000
set_option maxHeartbeats 2000000
namespace Spk
open PySem PySem.Spec PyProof.Rows L2
/-! ## dict(zip(t, u)) of two tuples: the pairs stay with the zip while the dict is filled -/
section
variable {prog : Program} {w : World} {A : Around} {E : Value → Shared → Prop} {s : Shared} {z TI TO T i1 i2 : Addr} {fp1 fp2 : List Addr} {n1 n2 i : Nat} {P1 P2 : Nat → Value → Prop} {St1 St2 : Nat → Heap → Prop} {f : Bool} {oT : Obj}
/-- the next pair, while the last one is still held -/
theorem held_pair {Q : Value → Shared → Prop} (S : ZipSep2 z TI TO i1 i2 fp1 fp2) (D1 : Draws prog w A i1 fp1 n1 P1 St1) (D2 : Draws prog w A i2 fp2 n2 P2 St2) (hz : IsZipHeld s.heap z TI TO T f) (hT : s.heap.get? T = some oT) (hTI : IsTupOf2 s.heap TI (.ref i1) (.ref i2))
    (st1 : St1 i s.heap) (st2 : St2 i s.heap) (l1 : i < n1) (l2 : i < n2)
    (hQ : ∀ x y h' tk, P1 i x → P2 i y → IsZipHeld h' z TI TO T true → St1 (i + 1) h' → St2 (i + 1) h' → IsTupOf2 h' s.heap.objs.size x y → h'.objs.size = s.heap.objs.size + 1 → (∀ c o, c ≠ z → c ≠ i1 → c ≠ i2 → s.heap.get? c = some o → h'.get? c = some o) →
      Q (.ref s.heap.objs.size) { s with heap := h', toks := tk }) : wpAny (model prog w) A (Builtin.«zip.__next__» ⟨[.ref z], []⟩) (fun fin s' => ∃ v, fin = .done (.ret v) ∧ Q v s') E s := by
  obtain ⟨hp, gn, dr, t0, os⟩ := s
  show wpAny _ _ (field (.ref z) 2 >>= _) _ _ _
  refine wpAny_bind (wpAny_field hz rfl (x := .bool false) rfl ?_)
  show wpAny _ _ (field (.ref z) 3 >>= _) _ _ _
  refine wpAny_bind (wpAny_field hz rfl (x := .ref TI) rfl (wpAny_bind (wpAny_seqItems hTI rfl ?_)))
  show wpAny _ _ (Builtin.SmallTypes.ownedTupleIsFree (.ref z) >>= _) _ _ _
  refine wpAny_bind (wpAny_tupleHeld_zip hz hT fun g0 hz0 b0 => ?_)
  replace b0 : Heap.SameBut z hp g0 := b0
  simp only [Bool.false_eq_true, if_false]
  refine wpAny_bind ?_
  rw [← Array.forIn_toList]
  simp only [List.forIn_cons, List.forIn_nil]
  refine wpAny_bind (wpAny_bind (wpAny_holding ?_))
  show wpAny _ _ (Builtin.SmallTypes.nextOf (.ref i1) >>= _) _ _ ⟨g0, gn, dr, t0, os⟩
  refine wpAny_bind (D1.item i _ _ _ l1 (D1.over st1 b0 S.zf1) fun x g1 t1 p1 q1 b1 => wpAny_pure (wpAny_pure (wpAny_bind (wpAny_bind (wpAny_holding ?_)))))
  replace b1 : Heap.SameBut i1 g0 g1 := b1
  show wpAny _ _ (Builtin.SmallTypes.nextOf (.ref i2) >>= _) _ _ ⟨g1, gn, dr, t1, os⟩
  refine wpAny_bind (D2.item i _ _ _ l2 (D2.over (D2.over st2 b0 S.zf2) b1 S.sep1_2) fun y g2 t2 p2 q2 b2 => wpAny_pure (wpAny_pure (wpAny_pure ?_)))
  replace b2 : Heap.SameBut i2 g1 g2 := b2
  show wpAny _ _ (newTuple [x, y] >>= _) _ _ ⟨g2, gn, dr, t2, os⟩
  refine wpAny_bind (wpAny_newTuple (wpAny_pure ⟨_, rfl, ?_⟩))
  show Q (.ref g2.objs.size) ⟨g2.push { cls := .type "tuple", data := .seq #[x, y] }, gn, dr, t2, os⟩
  have hsz : g2.objs.size = hp.objs.size := by rw [b2.1, b1.1, b0.1]
  have hold : ∀ c o, c ≠ z → c ≠ i1 → c ≠ i2 → hp.get? c = some o → g2.get? c = some o := fun c o c1 c2 c3 e => b2.extBut _ _ c3 (b1.extBut _ _ c2 (b0.extBut _ _ c1 e))
  have hz2 : IsZipHeld g2 z TI TO T true := b2.extBut _ _ S.zi2 (b1.extBut _ _ S.zi1 hz0)
  have ps : ∀ {c o}, g2.get? c = some o → (g2.push { cls := .type "tuple", data := .seq #[x, y] }).get? c = some o := fun e => Heap.get?_push_of_some _ e
  have hpair : IsTupOf2 (g2.push { cls := .type "tuple", data := .seq #[x, y] }) g2.objs.size x y := Heap.get?_push_size _ rfl
  have hz3 : (g2.push { cls := .type "tuple", data := .seq #[x, y] }).objs.size = g2.objs.size + 1 := Heap.size_push ..
  rw [hsz] at hpair hz3 ⊢
  exact hQ x y _ t2 p1 p2 (ps hz2) (D1.frame _ _ _ (D1.over q1 b2 S.sep2_1) fun b _ o e => ps e) (D2.frame _ _ _ q2 fun b _ o e => ps e) hpair hz3 fun c o c1 c2 c3 e => ps (hold c o c1 c2 c3 e)
/-- no pair is left, while the last one is still held -/
theorem held_over {n : Nat} {Q : Fin → Shared → Prop} (S : ZipSep2 z TI TO i1 i2 fp1 fp2) (D1 : Draws prog w A i1 fp1 n P1 St1) (hz : IsZipHeld s.heap z TI TO T f) (hT : s.heap.get? T = some oT) (hTI : IsTupOf2 s.heap TI (.ref i1) (.ref i2)) (st1 : St1 n s.heap)
    (hE : ∀ h' e, (∀ c o, c ≠ z → c ≠ i1 → c ≠ i2 → s.heap.get? c = some o → h'.get? c = some o) → (∃ o, h'.get? e = some o ∧ o.cls = .type "StopIteration") → E (.ref e) { s with heap := h' }) : wpAny (model prog w) A (Builtin.«zip.__next__» ⟨[.ref z], []⟩) Q E s := by
  obtain ⟨hp, gn, dr, t0, os⟩ := s
  show wpAny _ _ (field (.ref z) 2 >>= _) _ _ _
  refine wpAny_bind (wpAny_field hz rfl (x := .bool false) rfl ?_)
  show wpAny _ _ (field (.ref z) 3 >>= _) _ _ _
  refine wpAny_bind (wpAny_field hz rfl (x := .ref TI) rfl (wpAny_bind (wpAny_seqItems hTI rfl ?_)))
  show wpAny _ _ (Builtin.SmallTypes.ownedTupleIsFree (.ref z) >>= _) _ _ _
  refine wpAny_bind (wpAny_tupleHeld_zip hz hT fun g0 hz0 b0 => ?_)
  replace b0 : Heap.SameBut z hp g0 := b0
  simp only [Bool.false_eq_true, if_false]
  refine wpAny_bind ?_
  rw [← Array.forIn_toList]
  simp only [List.forIn_cons, List.forIn_nil]
  refine wpAny_bind (wpAny_bind (wpAny_holding ?_))
  show wpAny _ _ (Builtin.SmallTypes.nextOf (.ref i1) >>= _) _ _ ⟨g0, gn, dr, t0, os⟩
  exact wpAny_bind (D1.done _ _ _ (D1.over st1 b0 S.zf1) fun g1 e b1 he => hE g1 e (fun c o c1 c2 _ x => b1 _ _ c2 (b0.extBut _ _ c1 x)) he)
theorem next_pair {Q : Option Value → Shared → Prop} (S : ZipSep2 z TI TO i1 i2 fp1 fp2) (D1 : Draws prog w A.in1 i1 fp1 n1 P1 St1) (D2 : Draws prog w A.in1 i2 fp2 n2 P2 St2) (hz : IsZipHeld s.heap z TI TO T f) (hT : s.heap.get? T = some oT) (hTI : IsTupOf2 s.heap TI (.ref i1) (.ref i2))
    (st1 : St1 i s.heap) (st2 : St2 i s.heap) (l1 : i < n1) (l2 : i < n2)
    (hQ : ∀ x y h' tk, P1 i x → P2 i y → IsZipHeld h' z TI TO T true → St1 (i + 1) h' → St2 (i + 1) h' → IsTupOf2 h' s.heap.objs.size x y → h'.objs.size = s.heap.objs.size + 1 → (∀ c o, c ≠ z → c ≠ i1 → c ≠ i2 → s.heap.get? c = some o → h'.get? c = some o) →
      Q (some (.ref s.heap.objs.size)) { s with heap := h', toks := tk }) : wpAny (model prog w) A (pyNext (.ref z)) Q E s := by
  have ty : s.TypeIs (.ref z) "zip" := ⟨_, hz, rfl⟩
  unfold pyNext
  exact wpAny_bind (wpAny_attempt (wpAny_callSpecial?_slot (name := Str.ofString "__next__") ty F.slot_zip_next (wpAny_call_entry F.slot_zip_next ty F.entry_zip_next
    (held_pair S D1 D2 hz hT hTI st1 st2 l1 l2 fun x y h' tk a1 a2 a3 a4 a5 a6 a7 a8 => wpAny_pure (hQ x y h' tk a1 a2 a3 a4 a5 a6 a7 a8)) (F.args_zip_next_1 _))))
theorem next_over {n : Nat} {Q : Option Value → Shared → Prop} (S : ZipSep2 z TI TO i1 i2 fp1 fp2) (D1 : Draws prog w A.in1 i1 fp1 n P1 St1) (hz : IsZipHeld s.heap z TI TO T f) (hT : s.heap.get? T = some oT) (hTI : IsTupOf2 s.heap TI (.ref i1) (.ref i2)) (st1 : St1 n s.heap)
    (hQ : ∀ h', (∀ c o, c ≠ z → c ≠ i1 → c ≠ i2 → s.heap.get? c = some o → h'.get? c = some o) → Q none { s with heap := h' }) : wpAny (model prog w) A (pyNext (.ref z)) Q E s := by
  have ty : s.TypeIs (.ref z) "zip" := ⟨_, hz, rfl⟩
  unfold pyNext
  refine wpAny_bind (wpAny_attempt (wpAny_callSpecial?_slot (name := Str.ofString "__next__") ty F.slot_zip_next (wpAny_call_entry F.slot_zip_next ty F.entry_zip_next (held_over S D1 hz hT hTI st1 fun h' e hk he => ?_) (F.args_zip_next_1 _))))
  obtain ⟨o, ho, hc⟩ := he
  exact wpAny_bind (wpAny_isInstance (T := "StopIteration") (b := true) ⟨o, ho, hc⟩ isSubtype_stop (wpAny_pure (hQ _ hk)))
end
/-- zip(t, u) over two tuples of one length, as what dict() is filled from -/
theorem pairs_zipT {prog : Program} {w : World} (z TI TO i1 i2 a b : Addr) (n1 : a ≠ i1) (n2 : b ≠ i2) (S : ZipSep2 z TI TO i1 i2 [i1, a] [i2, b]) (az : a ≠ z) (aT : a ≠ TO) (a2 : a ≠ i2) (bz : b ≠ z) (bT : b ≠ TO) (b1 : b ≠ i1) (xs ys : Array Value) (hxy : xs.size = ys.size) :
    PairArg prog w "zip" z [z, TI, TO, i1, i2, a, b] [z, TO, i1, i2] xs.size (fun i k v => xs[i]? = some k ∧ ys[i]? = some v)
      (fun h => IsZip h z TI TO .none ∧ IsTupOf2 h TI (.ref i1) (.ref i2) ∧ (∃ x y, IsTupOf2 h TO x y) ∧ h.IsTupleIter i1 a 0 ∧ h.IsTupleIter i2 b 0 ∧ h.IsTuple a xs ∧ h.IsTuple b ys) where
  type := fun s ok => ⟨_, ok.1, rfl⟩
  notDict := by decide
  keep := fun h h' ok hk => by
    obtain ⟨hz, hTI, ⟨x, y, hTO⟩, h1, h2, ha, hb⟩ := ok
    exact ⟨hk _ _ hz, hk _ _ hTI, ⟨x, y, hk _ _ hTO⟩, h1.at fun o e => hk _ o e, h2.at fun o e => hk _ o e, ha.at fun o e => hk _ o e, hb.at fun o e => hk _ o e⟩
  there := fun h ok c hc => by
    obtain ⟨hz, hTI, ⟨x, y, hTO⟩, ⟨o1, h1, _⟩, ⟨o2, h2, _⟩, ⟨o3, h3, _⟩, ⟨o4, h4, _⟩⟩ := ok
    simp only [List.mem_cons, List.not_mem_nil, or_false] at hc
    rcases hc with rfl | rfl | rfl | rfl | rfl | rfl | rfl
    · exact ⟨_, hz⟩
    · exact ⟨_, hTI⟩
    · exact ⟨_, hTO⟩
    · exact ⟨_, h1⟩
    · exact ⟨_, h2⟩
    · exact ⟨_, h3⟩
    · exact ⟨_, h4⟩
  sub := fun c hc => by
    simp only [List.mem_cons, List.not_mem_nil, or_false] at hc ⊢
    rcases hc with rfl | rfl | rfl | rfl <;> simp
  noKeys := fun A s Q E hA ok h => getAttrOr_miss_zip ok.1 rfl rfl rfl zip_no_keys (by decide +kernel) hA h
  iter := fun A s d Q E hA ok hd hdf h => by
    obtain ⟨hz, hTI, ⟨x0, y0, hTO⟩, h1, h2, ha, hb⟩ := ok
    simp only [List.mem_cons, List.not_mem_nil, or_false, not_or] at hdf
    obtain ⟨dz, dTI, dTO, di1, di2, da, db⟩ := hdf
    have D1 := Draws.tuple (prog := prog) (w := w) (A := A.in1) hA i1 a n1 xs
    have D2 := Draws.tuple (prog := prog) (w := w) (A := A.in1) hA i2 b n2 ys
    refine wpAny_pyIter_zip hz (h z [z, TO, i1, i2] (fun i h => IsTupOf2 h TI (.ref i1) (.ref i2) ∧ (h.IsTupleIter i1 a i ∧ h.IsTuple a xs) ∧ (h.IsTupleIter i2 b i ∧ h.IsTuple b ys) ∧
      ((IsZip h z TI TO .none ∧ ∃ x y, IsTupOf2 h TO x y) ∨ ∃ T f oT, IsZipHeld h z TI TO T f ∧ h.get? T = some oT ∧ T ≠ z ∧ T ≠ i1 ∧ T ≠ i2 ∧ T ≠ d)) s.heap s.toks ?_
      ⟨hTI, ⟨h1, ha⟩, ⟨h2, hb⟩, .inl ⟨hz, x0, y0, hTO⟩⟩ (fun _ _ e => e) fun c hc => .inl hc)
    exact {
      off := fun hm => by
        simp only [List.mem_cons, List.not_mem_nil, or_false] at hm
        rcases hm with e | e | e | e
        · exact dz e
        · exact dTO e
        · exact di1 e
        · exact di2 e
      frame := fun i g g' st hk => by
        obtain ⟨gTI, ⟨g1, ga⟩, ⟨g2, gb⟩, gz⟩ := st
        refine ⟨hk _ _ (Ne.symm dTI) gTI, ⟨g1.at fun o e => hk _ o (Ne.symm di1) e, ga.at fun o e => hk _ o (Ne.symm da) e⟩, ⟨g2.at fun o e => hk _ o (Ne.symm di2) e, gb.at fun o e => hk _ o (Ne.symm db) e⟩, ?_⟩
        rcases gz with ⟨gz, x, y, gTO⟩ | ⟨T, f, oT, gz, gT, r1, r2, r3, r4⟩
        · exact .inl ⟨hk _ _ (Ne.symm dz) gz, x, y, hk _ _ (Ne.symm dTO) gTO⟩
        · exact .inr ⟨T, f, oT, hk _ _ (Ne.symm dz) gz, hk _ _ r4 gT, r1, r2, r3, r4⟩
      item := fun i s₁ Q₁ E₁ hi st hds hQ => by
        obtain ⟨gTI, g1, g2, gz⟩ := st
        have lt : ∀ {c o}, s₁.heap.get? c = some o → s₁.heap.objs.size ≠ c := fun e => Nat.ne_of_gt (Heap.lt_size e)
        have m1 : s₁.heap.objs.size ≠ i1 := let ⟨⟨_, e, _⟩, _⟩ := g1; lt e
        have m2 : s₁.heap.objs.size ≠ i2 := let ⟨⟨_, e, _⟩, _⟩ := g2; lt e
        rcases gz with ⟨gz, x, y, gTO⟩ | ⟨T, f, oT, gz, gT, r1, r2, r3, r4⟩
        · refine wpAny_pyNext_zipD2_item S D1 D2 gz gTI gTO g1 g2 hi (hxy ▸ hi) fun x1 x2 h' tk e1 e2 hz' hto q1 q2 hp hsz hk => ?_
          exact hQ s₁.heap.objs.size _ _ h' tk ⟨e1, e2⟩ (.inl ⟨_, hp, rfl, _, rfl⟩) ⟨hk _ _ S.TIz S.TITO S.TIi1 S.TIi2 gTI, q1, q2, .inr ⟨s₁.heap.objs.size, false, _, hz', hp, lt gz, m1, m2, Nat.ne_of_gt hds⟩⟩
            fun c o hc e => by
              simp only [List.mem_cons, List.not_mem_nil, or_false, not_or] at hc
              exact hk c o hc.1 hc.2.1 hc.2.2.1 hc.2.2.2 e
        · refine next_pair S D1 D2 gz gT gTI g1 g2 hi (hxy ▸ hi) fun x1 x2 h' tk e1 e2 hz' q1 q2 hp hsz hk => ?_
          exact hQ s₁.heap.objs.size _ _ h' tk ⟨e1, e2⟩ (.inl ⟨_, hp, rfl, _, rfl⟩) ⟨hk _ _ S.TIz S.TIi1 S.TIi2 gTI, q1, q2, .inr ⟨T, true, oT, hz', hk _ _ r1 r2 r3 gT, r1, r2, r3, r4⟩⟩
            fun c o hc e => by
              simp only [List.mem_cons, List.not_mem_nil, or_false, not_or] at hc
              exact hk c o hc.1 hc.2.2.1 hc.2.2.2 e
      done := fun s₁ Q₁ E₁ st hQ => by
        obtain ⟨gTI, g1, g2, gz⟩ := st
        rcases gz with ⟨gz, x, y, gTO⟩ | ⟨T, f, oT, gz, gT, r1, r2, r3, r4⟩
        · refine wpAny_pyNext_zipD2_end S D1 D2 gz gTI gTO g1 g2 (Nat.le_refl _) (Nat.le_of_eq hxy) (.inl rfl) fun h' tk hk => hQ h' tk fun c o hc e => ?_
          simp only [List.mem_cons, List.not_mem_nil, or_false, not_or] at hc
          exact hk c o hc.1 hc.2.1 hc.2.2.1 hc.2.2.2 e
        · refine next_over S D1 gz gT gTI g1 fun h' hk => hQ h' s₁.toks fun c o hc e => ?_
          simp only [List.mem_cons, List.not_mem_nil, or_false, not_or] at hc
          exact hk c o hc.1 hc.2.2.1 hc.2.2.2 e }
/-- dict(zip(t, u)), t a tuple of texts -/
def tDictZ (K : PySem.W.Frag) (ta : TA) : TE := fun σ H Q => ta σ H fun vs H1 => ∃ (a b : Addr) (ks : List Str) (ys : List V), vs = [.ref a, .ref b] ∧ SqT K H1 a (ks.map V.str) ∧ SqT K H1 b ys ∧ ks.length = ys.length ∧
  ∀ p, H1 p = none → Q (.ref p) (upd H1 p (.dK (mergeK [] ((ks.map Sum.inr).zip ys))))
theorem kv_zip : ∀ {ks : List Str} {ys : List V} {us : List Value}, Vals ys us → KV ((ks.map (Sum.inr : Str → Key)).zip ys) ((ks.map (Sum.inr : Str → Key)).zip us)
  | [], _, _, _ => .nil
  | _ :: _, _, _, .nil => .nil
  | k :: ks, _, _, .cons r t => .cons ⟨rfl, r⟩ (kv_zip t)
theorem boot_dict : bootBuiltins "dict" = some (.type "dict") := by decide +kernel
theorem str_at' {ks : List Str} {us : List Value} (r : Vals (ks.map V.str) us) {i : Nat} {u : Value} (h : us[i]? = some u) : ∃ k t, ks[i]? = some k ∧ u = .str k t := by
  have hi : i < ks.length := by
    have := r.length
    rw [List.length_map] at this
    have := (List.getElem?_eq_some_iff.mp h).1
    omega
  obtain ⟨u', hu', ru⟩ := r.get (i := i) (x := .str ks[i]) (by rw [List.getElem?_map, List.getElem?_eq_getElem hi]; rfl)
  rw [h] at hu'
  cases hu'
  obtain ⟨t, rfl⟩ := ru
  exact ⟨ks[i], t, List.getElem?_eq_getElem hi, rfl⟩
theorem pe_dictZ {X : Cx} {e e2 : Expr} {ta : TA} {p p2 pos pos2 : Pos} (hcalm : X.calm = true) (hg : Gl X "dict") (hm : X.mg "dict" = none) (hgz : Gl X "zip") (hmz : X.mg "zip" = none) (ha : PA X [e, e2] ta)
    (hs : starEach [e, e2] X.env = (false, eval e X.env) :: starEach [e2] X.env := by rfl) (hpl : ((backTo pos2 (starEach [e2] X.env)).any fun x => x.1) = false := by rfl)
    (hd : starEach [Expr.Call (.Name "zip" p2) [e, e2] [] pos2] X.env = [(false, eval (.Call (.Name "zip" p2) [e, e2] [] pos2) X.env)] := by rfl) :
    PE X (.Call (.Name "dict" p) [.Call (.Name "zip" p2) [e, e2] [] pos2] [] pos) (tDictZ X.K ta) := by
  refine ⟨fun pins s σ H Q I h => ?_⟩
  refine Call_ (ld_blt I hg hm boot_dict (callWith_type1 ?_ hd rfl))
  rw [hd]
  show wpAny _ _ (spliced [(false, eval (.Call (.Name "zip" p2) [e, e2] [] pos2) X.env)]) _ _ s
  refine Calls.spliced_cons (thn (Q := fun v s2 => wpAny (model X.prog X.w) X.A (call (.type "dict") [v]) (EP X pins σ Q) X.xe s2) ?_ fun v s2 q => Calls.spliced_nil q)
  refine Call_ (ld_blt I hgz hmz boot_zip (callWith_type1 (thn (ha.run pos2 pins s σ H _ I h) fun us s1 ⟨vs, H1, I1, r1, q1⟩ => ?_) hs hpl))
  obtain ⟨a, b, ks, ys, ex, hk, hy, hl, q⟩ := q1
  subst ex
  obtain ⟨u, u2, rfl, ru, ru2⟩ := vals_two r1
  cases ru
  cases ru2
  obtain ⟨its, rv, pk, hz⟩ := I1.tuple hk
  obtain ⟨its2, rv2, py, hz2⟩ := I1.tuple hy
  have al : a < s1.heap.objs.size := by
    obtain ⟨o, ho, _⟩ := pk
    exact Heap.lt_size ho
  have bl : b < s1.heap.objs.size := by
    obtain ⟨o, ho, _⟩ := py
    exact Heap.lt_size ho
  have hll : its.toArray.size = its2.toArray.size := by
    rw [List.size_toArray, List.size_toArray, ← rv.length, ← rv2.length, List.length_map, hl]
  refine zip_begins2 (begins_tuple a its.toArray) (begins_tuple b its2.toArray) pk py fun h' hz' hTI hTO hi1 hi2 hsz hkeep => ?_
  have ne : ∀ {c : Addr} {k : Nat}, c < s1.heap.objs.size → c ≠ s1.heap.objs.size + k := fun h => Nat.ne_of_lt (Nat.lt_of_lt_of_le h (Nat.le_add_right _ _))
  have ks' : ((ks.map (Sum.inr : Str → Key)).zip its2).length = its.toArray.size := by
    rw [List.length_zip, List.length_map, List.size_toArray, ← rv.length, ← rv2.length, List.length_map, ← hl]
    omega
  have pk' : s1.heap.IsTuple a its.toArray := pk
  have py' : s1.heap.IsTuple b its2.toArray := py
  refine PySem.call_dict_pairs (knd := mixKind X.prog X.w) (kvs := (ks.map (Sum.inr : Str → Key)).zip its2) (pairs_zipT _ _ _ _ _ a b (Nat.ne_of_lt al) (ne bl) (zsep _ _ _ al bl) (ne al) (ne al) (ne al) (ne bl) (ne bl) (Nat.ne_of_lt bl) its.toArray its2.toArray hll) (I1.ok.hd hcalm)
    ⟨hz', hTI, ⟨_, _, hTO⟩, ⟨_, hi1, rfl, rfl⟩, ⟨_, hi2, rfl, rfl⟩, pk'.at fun o e => hkeep _ o e, py'.at fun o e => hkeep _ o e⟩ ⟨ks', fun i key v ⟨e1, e2⟩ => ?_⟩ (by rw [List.size_toArray, ← rv.length]; exact hz) fun h2 tk hd2 hk2 => ?_
  · have e1' : its[i]? = some key := by simpa using e1
    have e2' : its2[i]? = some v := by simpa using e2
    obtain ⟨k, t, ek, rfl⟩ := str_at' rv e1'
    refine ⟨Sum.inr k, ?_, kV_is (P := X.prog) (w := X.w) (k := Sum.inr k) ⟨t, rfl⟩⟩
    rw [List.getElem?_zip_eq_some]
    exact ⟨by rw [List.getElem?_map, ek]; rfl, e2'⟩
  · have kp : ∀ b o, s1.heap.get? b = some o → h2.get? b = some o := fun c o e => by
      have cl : c < s1.heap.objs.size := Heap.lt_size e
      refine hk2 c o (fun hc => ?_) (hkeep c o e)
      simp only [List.mem_cons, List.not_mem_nil, or_false] at hc
      rcases hc with r | r | r | r
      · exact ne cl r
      · exact ne cl r
      · exact Nat.ne_of_lt cl r
      · exact ne cl r
    have le : s1.heap.objs.size ≤ h'.objs.size := by rw [hsz]; exact Nat.le_add_right _ _
    have hm' : (h'.objs.size == sysModules) = false := beq_eq_false_iff_ne.mpr (Nat.ne_of_gt (Nat.lt_of_lt_of_le I1.big le))
    have zl : (mergeK [] ((ks.map (Sum.inr : Str → Key)).zip ys)).length ≤ sizeLine := by
      refine Nat.le_trans (length_mergeK _ []) ?_
      rw [List.length_nil, Nat.zero_add, List.length_zip]
      exact Nat.le_trans (Nat.min_le_right ..) hz2
    exact ⟨.ref h'.objs.size, upd H1 h'.objs.size (.dK (mergeK [] ((ks.map Sum.inr).zip ys))), I1.laid (t' := tk) kp le (show ObjOk X.prog X.w _ _ _ (.dK (mergeK [] ((ks.map (Sum.inr : Str → Key)).zip ys))) from ⟨zl, hm', merged [] ((ks.map (Sum.inr : Str → Key)).zip its2), KV.merge (kv_zip rv2) .nil, hd2⟩), rfl, q _ (I1.hok.fresh le)⟩
end Spk

set_option Elab.async false
set_option linter.all false
set_option maxRecDepth 100000
set_option maxHeartbeats 2000000
namespace Spk
open PySem PySem.Spec PyProof.Rows PySem.W L2
/-! ## len(a) by the class's own __len__; a method that may raise in a try -/
section
variable {X : Cx} {n : Nat} {C f : Addr} {sp : Sp}
def rLenO (C : Addr) (sp : Sp) : List V → Hp → VK → Prop := fun xs H Q => ∃ a dx fs, xs = [.ref a] ∧ H a = some (.ins C dx fs) ∧ sp [.ref a] H (fun v H' => ∃ k : Nat, v = .int (k : Int) ∧ k ≤ 1000000 ∧ Q (.int (k : Int)) H') E0
theorem call_lenO (F : FnR X.prog X.w X.K X.mg X.base CX0 n f sp) (hr : Room (n + 1) X.A) (hs : findIn X.K (.ref C) "__len__" = some (some (.ref f))) (hf : isFn X.K (.ref f) = true) : CallR X (.builtin "len") (rLenO C sp) := by
  intro pins s σ H xs us Q I r h
  obtain ⟨a, dx, fs, rfl, ha, q⟩ := h
  obtain rfl := Vals.ref1 r
  obtain ⟨oa, ja⟩ := inst_of I ha
  obtain ⟨m, hF⟩ := I.fr
  refine len_K hF I.ok.mod.kin ja hs hf (wpAny_mono (call_at F (Sub.in1 (sub0 hr)) I (.cons (relR _) .nil) q) (fun r s' z => ?_) fun _ _ z => z)
  obtain ⟨w, H', I', rw', k, rfl, hk, q'⟩ := z
  obtain ⟨t, rfl⟩ := rw'
  exact ⟨⟨by omega, by omega⟩, .int (k : Int), H', I'.tok _, ⟨_, rfl⟩, q'⟩
end
/-- o.m(e, ..), m may raise what the try about it takes -/
def tMethS (C : Addr) (m : Str) (sp : Sp) (E : L2.St → XK) (ta : TE) (t : TA) : TE := fun σ H Q => ta σ H fun x H1 => ∃ a dx fs, x = .ref a ∧ H1 a = some (.ins C dx fs) ∧ fs.lookup m = none ∧ t σ H1 fun vs H2 => sp (x :: vs) H2 Q (E σ)
theorem pe_methS {X : Cx} {CX : CXT} {k : Nat} {C f : Addr} {fd : FuncData} {ps : List Str} {m : Str} {sp : Sp} {E : L2.St → XK} {o e : Expr} {es : List Expr} {ta : TE} {t : TA} {apos pos : Pos} {pl : Sem Bool} (he : PE X o ta) (c : Cls X.K C) (hm : Meth X.K C m f)
    (F : FnOk X.prog X.w X.K X.mg X.base CX k f fd ps sp) (hr : Room k X.A) (hb : Binds X.K fd ps []) (hx : ∀ σ, PassesAt CX X σ (E σ)) (ha : PA X (e :: es) t)
    (hst : starEach (e :: es) X.env = (false, eval e X.env) :: starEach es X.env := by rfl) (hpl : (backTo pos (starEach es X.env)).any (·.1) = false := by rfl)
    (ht : eval (.Call (.Attribute o m apos) (e :: es) [] pos) X.env = (do
      let ov ← eval o X.env
      standAt apos.atName
      let (f, first) ← holding [ov] (getMethod ov m pl)
      callWith pos f first (backTo pos (starEach (e :: es) X.env)) (backToKw pos (keywordEach [] X.env))) := by rfl) :
    PE X (.Call (.Attribute o m apos) (e :: es) [] pos) (tMethS C m sp E ta t) := by
  refine ⟨fun pins s σ H Q I h => ?_⟩
  refine PySem.W.methodCall_KW (pl := pl) (thn (he.run pins s σ H _ I h) fun u s1 ⟨x, H1, I1, rx, a, dx, fs, ex, ea, l, q⟩ => ?_) ht
  subst ex
  obtain rfl : u = Value.ref a := rx
  refine getmeth_ok I1 ea c hm l ?_
  refine PySem.W.callWith_K (first := [.ref a]) (h₀ := X.base) I.ok.mod.kin hm.kp (thn (ha.run pos pins s1 σ H1 _ I1 q) fun us s2 ⟨vs, H2, I2, r, q2⟩ => ⟨I2.kIn, ?_⟩) hst hpl
  exact run_fnS (us := Value.ref a :: us) (vs := V.ref a :: vs) F hr hb (hx σ) I2 (.cons (relR a) r) q2
theorem i_methS {C : Addr} {m : Str} {sp : Sp} {E : L2.St → XK} {ta : TE} {t : TA} {σ : L2.St} {H : Hp} {Q : VK} (h : ta σ H fun x H1 => ∃ a dx fs, x = .ref a ∧ H1 a = some (.ins C dx fs) ∧ fs.lookup m = none ∧ t σ H1 fun vs H2 => sp (x :: vs) H2 Q (E σ)) : tMethS C m sp E ta t σ H Q := h
end Spk

set_option Elab.async false
set_option linter.all false
set_option maxRecDepth 100000
set_option maxHeartbeats 2000000
namespace Spk
open PySem PySem.Spec PyProof.Rows L2
/-! ## for x, y, z in zip(l, t, u), l a list, t and u tuples -/
def Itz3 (K : PySem.W.Frag) (a b c : Addr) : It where
  go := fun i H => ∃ (xs ys zs : List V) (x y z : V), SqL K H a xs ∧ SqT K H b ys ∧ SqT K H c zs ∧ xs[i]? = some x ∧ ys[i]? = some y ∧ zs[i]? = some z
  yld := fun i H v H' => ∃ T x y z, v = .ref T ∧ H T = none ∧ H' = upd H T (.tup [x, y, z]) ∧ (∀ xs, SqL K H a xs → xs[i]? = some x) ∧ (∀ ys, SqT K H b ys → ys[i]? = some y) ∧ ∀ zs, SqT K H c zs → zs[i]? = some z
  stop := fun i H => ∃ xs ys zs : List V, SqL K H a xs ∧ SqT K H b ys ∧ SqT K H c zs ∧ xs.length = i ∧ ys.length = i ∧ zs.length = i
theorem turn_zip3 {P : Program} {w : World} {K : PySem.W.Frag} {elts : List Expr} {kk : Nat} {tpos : Pos} {a b c z TI TO i1 i2 i3 : Addr} (Z : ZipSep3 z TI TO i1 i2 i3 [i1, a] [i2, b] [i3, c]) (n1 : a ≠ i1) (n2 : b ≠ i2) (n3 : c ≠ i3) :
    Turn P w K (.Tuple elts kk tpos) (Itz3 K a b c) [z, TI, TO, i1, i2, i3] z (fun i h => IsZip h z TI TO .none ∧ IsTupOf3 h TI (.ref i1) (.ref i2) (.ref i3) ∧ (∃ x y v, IsTupOf3 h TO x y v) ∧ h.IsListIter i1 a i ∧ h.IsTupleIter i2 b i ∧ h.IsTupleIter i3 c i) where
  mem := by simp
  obj := fun i h st d hd => by
    obtain ⟨h1, h2, ⟨x, y, v, h3⟩, ⟨o, ho, _, hd1⟩, ⟨o2, ho2, _, hd2⟩, ⟨o3, ho3, _, hd3⟩⟩ := st
    simp only [List.mem_cons, List.not_mem_nil, or_false] at hd
    rcases hd with rfl | rfl | rfl | rfl | rfl | rfl
    · exact ⟨_, h1, fun v q => nomatch q⟩
    · exact ⟨_, h2, fun v q => nomatch q⟩
    · exact ⟨_, h3, fun v q => nomatch q⟩
    · exact ⟨o, ho, fun v q => by rw [hd1] at q; cases q⟩
    · exact ⟨o2, ho2, fun v q => by rw [hd2] at q; cases q⟩
    · exact ⟨o3, ho3, fun v q => by rw [hd3] at q; cases q⟩
  keep := fun i h h' st k => by
    obtain ⟨h1, h2, ⟨x, y, v, h3⟩, h4, h5, h6⟩ := st
    exact ⟨k z (by simp) _ h1, k TI (by simp) _ h2, ⟨x, y, v, k TO (by simp) _ h3⟩, h4.at fun o q => k i1 (by simp) o q, h5.at fun o q => k i2 (by simp) o q, h6.at fun o q => k i3 (by simp) o q⟩
  item := by
    intro X hP hw hK hc i pins s σ H E I hf st hg
    subst hP hw hK
    obtain ⟨h1, h2, ⟨x0, y0, v0, h3⟩, h4, h5, h6⟩ := st
    obtain ⟨xs, ys, zs, x, y, v, hl, ht, hu', hx, hy, hv⟩ := hg
    obtain ⟨its, rv, pl, hz⟩ := I.list hl
    obtain ⟨its2, rv2, pt, hz2⟩ := I.tuple ht
    obtain ⟨its3, rv3, pt3, hz3⟩ := I.tuple hu'
    obtain ⟨u, hu, ru⟩ := rv.get hx
    obtain ⟨u2, hu2, ru2⟩ := rv2.get hy
    obtain ⟨u3, hu3, ru3⟩ := rv3.get hv
    have D1 := Draws.list (prog := X.prog) (w := X.w) (A := X.A.in1) (I.ok.hd hc) i1 a n1 its.toArray
    have D2 := Draws.tuple (prog := X.prog) (w := X.w) (A := X.A.in1) (I.ok.hd hc) i2 b n2 its2.toArray
    have D3 := Draws.tuple (prog := X.prog) (w := X.w) (A := X.A.in1) (I.ok.hd hc) i3 c n3 its3.toArray
    have hi : i < its.toArray.size := by
      rw [List.size_toArray]
      exact (List.getElem?_eq_some_iff.mp hu).1
    have hi2 : i < its2.toArray.size := by
      rw [List.size_toArray]
      exact (List.getElem?_eq_some_iff.mp hu2).1
    have hi3 : i < its3.toArray.size := by
      rw [List.size_toArray]
      exact (List.getElem?_eq_some_iff.mp hu3).1
    have zl : z < s.heap.objs.size := Heap.lt_size h1
    have tl : TI < s.heap.objs.size := Heap.lt_size h2
    have ol : TO < s.heap.objs.size := Heap.lt_size h3
    have il : i1 < s.heap.objs.size := by
      obtain ⟨_, q, _⟩ := id h4
      exact Heap.lt_size q
    have jl : i2 < s.heap.objs.size := by
      obtain ⟨_, q, _⟩ := id h5
      exact Heap.lt_size q
    have kl : i3 < s.heap.objs.size := by
      obtain ⟨_, q, _⟩ := id h6
      exact Heap.lt_size q
    refine wpAny_pyNext_zipD3_item Z D1 D2 D3 h1 h2 h3 ⟨h4, pl.isList⟩ ⟨h5, pt⟩ ⟨h6, pt3⟩ hi hi2 hi3 fun x1 x2 x3 h' tk e1 e2 e3 ho hto s1 s2 s3 hT hsz hk => ?_
    have ex : x1 = u := by
      have q : its.toArray[i]? = some u := by simpa using hu
      rw [q] at e1
      exact (Option.some.inj e1).symm
    have ey : x2 = u2 := by
      have q : its2.toArray[i]? = some u2 := by simpa using hu2
      rw [q] at e2
      exact (Option.some.inj e2).symm
    have ez : x3 = u3 := by
      have q : its3.toArray[i]? = some u3 := by simpa using hu3
      rw [q] at e3
      exact (Option.some.inj e3).symm
    subst ex ey ez
    refine ⟨_, rfl, wpAny_letOwnedTupleGo_zip (s := { s with heap := h', toks := tk }) ho fun h'' hz' sb => ?_⟩
    have hT2 : h''.get? s.heap.objs.size = some { cls := .type "tuple", data := .seq #[x1, x2, x3] } := (sb.2 _ (Nat.ne_of_gt zl)).trans hT
    have new : ObjOk X.prog X.w (upd H s.heap.objs.size (.tup [x, y, v])) h'' s.heap.objs.size (.tup [x, y, v]) :=
      ⟨size_of (Nat.le_of_ble_eq_true rfl), [x1, x2, x3], .cons ru (.cons ru2 (.cons ru3 .nil)), ⟨_, hT2, rfl, _, rfl⟩⟩
    have keepB : ∀ d ob, d ∉ [z, TI, TO, i1, i2, i3] → s.heap.get? d = some ob → h''.get? d = some ob := fun d ob hc q => by
      simp only [List.mem_cons, List.not_mem_nil, or_false, not_or] at hc
      exact (sb.2 d hc.1).trans (hk d ob hc.1 hc.2.2.1 hc.2.2.2.1 hc.2.2.2.2.1 hc.2.2.2.2.2 q)
    have I1 := I.turnedNew (t' := tk) (ch := [z, TI, TO, i1, i2, i3]) keepB hf (Nat.le_refl _) new
    have zi1 : i1 ≠ z := fun q => Z.zf1 (by rw [← q]; simp)
    have zi2 : i2 ≠ z := fun q => Z.zf2 (by rw [← q]; simp)
    have zi3 : i3 ≠ z := fun q => Z.zf3 (by rw [← q]; simp)
    have hTI : h'.get? TI = some { cls := .type "tuple", data := .seq #[.ref i1, .ref i2, .ref i3] } := hk TI _ Z.TIz Z.TITO Z.TIi1 Z.TIi2 Z.TIi3 h2
    refine ⟨.ref s.heap.objs.size, _, I1, rfl, ⟨_, x, y, v, rfl, I.hok.fresh (Nat.le_refl _), rfl, fun zs hy' => by rw [I.list_inj hy' hl]; exact hx, fun zs hy' => by rw [I.tuple_inj hy' ht]; exact hy, fun zs hy' => by rw [I.tuple_inj hy' hu']; exact hv⟩,
      ⟨hz', (sb.2 TI Z.TIz).trans hTI, ⟨x1, x2, x3, (sb.2 TO Z.TOz).trans hto⟩, s1.1.at fun o q => (sb.2 i1 zi1).trans q, s2.1.at fun o q => (sb.2 i2 zi2).trans q, s3.1.at fun o q => (sb.2 i3 zi3).trans q⟩, fun d hd => ?_⟩
    have hd' : d < s.heap.objs.size := by
      simp only [List.mem_cons, List.not_mem_nil, or_false] at hd
      rcases hd with rfl | rfl | rfl | rfl | rfl | rfl <;> assumption
    rw [upd_ne (Nat.ne_of_lt hd')]
    exact (hf d hd).1
  done := by
    intro X hP hw hK hc i pins s σ H E I hf st hg
    subst hP hw hK
    obtain ⟨h1, h2, ⟨x0, y0, v0, h3⟩, h4, h5, h6⟩ := st
    obtain ⟨xs, ys, zs, hl, ht, hu', e1, e2, e3⟩ := hg
    obtain ⟨its, rv, pl, hz⟩ := I.list hl
    obtain ⟨its2, rv2, pt, hz2⟩ := I.tuple ht
    obtain ⟨its3, rv3, pt3, hz3⟩ := I.tuple hu'
    have D1 := Draws.list (prog := X.prog) (w := X.w) (A := X.A.in1) (I.ok.hd hc) i1 a n1 its.toArray
    have D2 := Draws.tuple (prog := X.prog) (w := X.w) (A := X.A.in1) (I.ok.hd hc) i2 b n2 its2.toArray
    have D3 := Draws.tuple (prog := X.prog) (w := X.w) (A := X.A.in1) (I.ok.hd hc) i3 c n3 its3.toArray
    have z1 : its.toArray.size = i := by rw [List.size_toArray, ← rv.length]; exact e1
    have z2 : its2.toArray.size = i := by rw [List.size_toArray, ← rv2.length]; exact e2
    have z3 : its3.toArray.size = i := by rw [List.size_toArray, ← rv3.length]; exact e3
    refine wpAny_pyNext_zipD3_end Z D1 D2 D3 h1 h2 h3 ⟨h4, pl.isList⟩ ⟨h5, pt⟩ ⟨h6, pt3⟩ (Nat.le_of_eq z1.symm) (Nat.le_of_eq z2.symm) (Nat.le_of_eq z3.symm) (.inl z1.symm) fun h' tk eb => ⟨rfl, ?_⟩
    exact I.turnedL (t' := tk) (ch := [z, TI, TO, i1, i2, i3]) (fun d o hc q => by
      simp only [List.mem_cons, List.not_mem_nil, or_false, not_or] at hc
      exact eb d o hc.1 hc.2.2.1 hc.2.2.2.1 hc.2.2.2.2.1 hc.2.2.2.2.2 q) hf
  self := fun A i s Q E st h => wpAny_pyIter_zip st.1 h
def iZip3 (K : PySem.W.Frag) (ta : TA) : TI := fun σ H R => ta σ H fun vs H1 => ∃ a b c xs ys zs, vs = [.ref a, .ref b, .ref c] ∧ SqL K H1 a xs ∧ SqT K H1 b ys ∧ SqT K H1 c zs ∧ R (Itz3 K a b c) H1
theorem vals_three {v w x : V} {us : List Value} (h : Vals [v, w, x] us) : ∃ u u2 u3, us = [u, u2, u3] ∧ RelV v u ∧ RelV w u2 ∧ RelV x u3 := by
  cases h with
  | cons r t =>
    obtain ⟨u2, u3, rfl, r2, r3⟩ := vals_two t
    exact ⟨_, _, _, rfl, r, r2, r3⟩
theorem zsep3 (n a b c : Nat) (ha : a < n) (hb : b < n) (hc : c < n) : ZipSep3 (n + 5) (n + 3) (n + 4) n (n + 1) (n + 2) [n, a] [n + 1, b] [n + 2, c] where
  TIz := Nat.ne_of_lt (show n + 3 < n + 5 by omega)
  TOz := Nat.ne_of_lt (show n + 4 < n + 5 by omega)
  TITO := Nat.ne_of_lt (show n + 3 < n + 4 by omega)
  TIi1 := Nat.ne_of_gt (show n < n + 3 by omega)
  mem1 := List.mem_cons_self
  zf1 := nm2 (n + 5) n a (by omega) (by omega)
  Tf1 := nm2 (n + 4) n a (by omega) (by omega)
  TIi2 := Nat.ne_of_gt (show n + 1 < n + 3 by omega)
  mem2 := List.mem_cons_self
  zf2 := nm2 (n + 5) (n + 1) b (by omega) (by omega)
  Tf2 := nm2 (n + 4) (n + 1) b (by omega) (by omega)
  TIi3 := Nat.ne_of_gt (show n + 2 < n + 3 by omega)
  mem3 := List.mem_cons_self
  zf3 := nm2 (n + 5) (n + 2) c (by omega) (by omega)
  Tf3 := nm2 (n + 4) (n + 2) c (by omega) (by omega)
  sep1_2 := nm2 n (n + 1) b (by omega) (by omega)
  sep1_3 := nm2 n (n + 2) c (by omega) (by omega)
  sep2_1 := nm2 (n + 1) n a (by omega) (by omega)
  sep2_3 := nm2 (n + 1) (n + 2) c (by omega) (by omega)
  sep3_1 := nm2 (n + 2) n a (by omega) (by omega)
  sep3_2 := nm2 (n + 2) (n + 1) b (by omega) (by omega)
theorem zle3 (n c : Nat) (h : c ∈ [n + 5, n + 3, n + 4, n, n + 1, n + 2]) : n ≤ c := by
  simp only [List.mem_cons, List.not_mem_nil, or_false] at h
  omega
theorem pi_zip3 {X : Cx} {e e2 e3 : Expr} {ta : TA} {p pos tpos : Pos} {elts : List Expr} {kk : Nat} (hg : Gl X "zip") (hm : X.mg "zip" = none) (ha : PA X [e, e2, e3] ta)
    (hs : starEach [e, e2, e3] X.env = (false, eval e X.env) :: starEach [e2, e3] X.env := by rfl) (hpl : ((backTo pos (starEach [e2, e3] X.env)).any fun x => x.1) = false := by rfl) :
    PI X (.Tuple elts kk tpos) (.Call (.Name "zip" p) [e, e2, e3] [] pos) (iZip3 X.K ta) := by
  refine ⟨fun pins s σ H R I h => ?_⟩
  refine Call_ (ld_blt I hg hm boot_zip (callWith_type1 (thn (ha.run pos pins s σ H _ I h) fun us s1 ⟨vs, H1, I1, r1, q1⟩ => ?_) hs hpl))
  obtain ⟨a, b, c, xs, ys, zs, ex, hl, ht, hu, q⟩ := q1
  subst ex
  obtain ⟨u, u2, u3, rfl, ru, ru2, ru3⟩ := vals_three r1
  cases ru
  cases ru2
  cases ru3
  obtain ⟨its, rv, pl, hz⟩ := I1.list hl
  obtain ⟨its2, rv2, pt, hz2⟩ := I1.tuple ht
  obtain ⟨its3, rv3, pt3, hz3⟩ := I1.tuple hu
  have al : a < s1.heap.objs.size := by
    obtain ⟨o, ho, _⟩ := pl.isList
    exact Heap.lt_size ho
  have bl : b < s1.heap.objs.size := by
    obtain ⟨o, ho, _⟩ := pt
    exact Heap.lt_size ho
  have cl : c < s1.heap.objs.size := by
    obtain ⟨o, ho, _⟩ := pt3
    exact Heap.lt_size ho
  refine zip_begins3 (begins_list a its.toArray) (begins_tuple b its2.toArray) (begins_tuple c its3.toArray) pl.isList pt pt3 fun h' hz hTI hTO hi1 hi2 hi3 hsz hk => wpAny_pyIter_zip hz ?_
  have I2 : Inv X pins σ H1 { s1 with heap := h' } := I1.kept (t' := s1.toks) hk
  have ne : ∀ {c : Addr} {k : Nat}, c < s1.heap.objs.size → c ≠ s1.heap.objs.size + k := fun h => Nat.ne_of_lt (Nat.lt_of_lt_of_le h (Nat.le_add_right _ _))
  have Z := zsep3 _ _ _ _ al bl cl
  refine ⟨s1.heap.objs.size + 5, [s1.heap.objs.size + 5, s1.heap.objs.size + 3, s1.heap.objs.size + 4, s1.heap.objs.size, s1.heap.objs.size + 1, s1.heap.objs.size + 2], _, _, H1, rfl, I2, turn_zip3 Z (Nat.ne_of_lt al) (ne bl) (ne cl),
    ⟨hz, hTI, ⟨_, _, _, hTO⟩, ⟨_, hi1, rfl, rfl⟩, ⟨_, hi2, rfl, rfl⟩, ⟨_, hi3, rfl, rfl⟩⟩, fun c hc => ?_, q⟩
  have hle : s1.heap.objs.size ≤ c := zle3 _ _ hc
  exact I1.fpOk hle (I1.hok.fresh hle)
/-- what a turn gives: a new tuple of three -/
def YTri (f g k : Nat → Option V) : Nat → Hp → V → Hp → Prop := fun i H v H' => ∃ T x y z, v = .ref T ∧ H T = none ∧ H' = upd H T (.tup [x, y, z]) ∧ f i = some x ∧ g i = some y ∧ k i = some z
theorem walk_zip3 {K : PySem.W.Frag} {a b c : Addr} {xs ys zs : List V} {n : Nat} (h1 : xs.length = n) (h2 : ys.length = n) (h3 : zs.length = n) : Walk (Itz3 K a b c) n (fun H => SqL K H a xs ∧ SqT K H b ys ∧ SqT K H c zs) (YTri (fun i => xs[i]?) (fun i => ys[i]?) fun i => zs[i]?) where
  goes := fun i H hi ⟨g1, g2, g3⟩ => ⟨xs, ys, zs, xs[i]'(by omega), ys[i]'(by omega), zs[i]'(by omega), g1, g2, g3, List.getElem?_eq_getElem (by omega), List.getElem?_eq_getElem (by omega), List.getElem?_eq_getElem (by omega)⟩
  stops := fun H ⟨g1, g2, g3⟩ => ⟨xs, ys, zs, g1, g2, g3, h1, h2, h3⟩
  yields := fun i H x H' hi ⟨g1, g2, g3⟩ ⟨T, u, v, w, e, hT, e2, q1, q2, q3⟩ => ⟨T, u, v, w, e, hT, e2, q1 xs g1, q2 ys g2, q3 zs g3⟩
theorem i_zip3 {K : PySem.W.Frag} {σ : L2.St} {H : Hp} {ta : TA} {R : It → Hp → Prop} (h : ta σ H fun vs H1 => ∃ a b c xs ys zs, vs = [.ref a, .ref b, .ref c] ∧ SqL K H1 a xs ∧ SqT K H1 b ys ∧ SqT K H1 c zs ∧ R (Itz3 K a b c) H1) : iZip3 K ta σ H R := h
end Spk

set_option Elab.async false
set_option linter.all false
set_option maxRecDepth 100000
set_option maxHeartbeats 4000000
namespace Spk
open PySem L2
local macro_rules | `(tactic| walk_at "rd") => `(tactic| repeat (first
  | with_reducible refine i_seq ?_ | with_reducible refine i_asg ?_ | with_reducible refine i_ret ?_ | with_reducible refine i_ifS ?_ | with_reducible refine i_if ?_
  | with_reducible refine i_for ?_ | with_reducible refine i_iL ?_ | with_reducible refine i_iT ?_ | with_reducible refine i_ckw ?_ | with_reducible refine i_cm ?_ | with_reducible refine And.intro (rfl : V.ref _ = V.ref _) ?_ | with_reducible refine i_rng1 ?_ | with_reducible refine i_bm ?_ | with_reducible refine i_bm0 ?_
  | with_reducible refine i_drop ?_ | with_reducible refine i_next ?_
  | with_reducible refine i_var rfl ?_ | with_reducible refine i_c ?_ | with_reducible refine i_op ?_ | with_reducible refine i_un ?_ | with_reducible refine i_name ?_
  | with_reducible refine i_rI0 ?_ | with_reducible refine i_rU ?_ | with_reducible refine i_rEq rfl ?_ | with_reducible refine i_rNe rfl ?_
  | with_reducible refine i_test ?_ | with_reducible refine i_tB ?_ | with_reducible refine i_and ?_ | with_reducible refine i_or ?_ | with_reducible refine i_not ?_
  | with_reducible refine i_andV ?_ | with_reducible refine i_orV ?_ | with_reducible refine i_notV ?_
  | with_reducible refine i_cons ?_ | with_reducible refine i_nil ?_ | with_reducible refine i_cb ?_ | with_reducible refine i_call ?_ | with_reducible refine i_bl ?_
  | with_reducible refine i_tup ?_ | with_reducible refine i_lst ?_ | with_reducible refine i_par ?_ | with_reducible refine i_gcons ?_ | with_reducible refine i_gnil ?_
  | with_reducible refine And.intro (rfl : V.non = V.non) ?_ | with_reducible refine i_ixT (by assumption) rfl ?_ | with_reducible refine i_ixL (by assumption) rfl ?_ | with_reducible refine i_gtup (by assumption) rfl ?_
  | with_reducible refine i_gsub ?_
  | with_reducible refine Or.inl (Exists.intro _ (And.intro (rfl : [V.int _] = [V.int _]) ?_)) | with_reducible refine Exists.intro _ (And.intro (rfl : [V.int _] = [V.int _]) ?_)
  | with_reducible refine Or.inr (Exists.intro _ (And.intro (rfl : [V.bl _] = [V.bl _]) ?_))
  | with_reducible refine Exists.intro _ (Exists.intro _ (And.intro (rfl : [V.int _, V.int _] = [V.int _, V.int _]) ?_))
  | with_reducible refine Exists.intro _ (Exists.intro _ (And.intro (rfl : [V.ref _] = [V.ref _]) (And.intro (Or.inl (SqL.of (by assumption))) ?_)))
  | with_reducible refine i_rI (show (0 : Int) < _ by assumption) ?_ | with_reducible refine i_rI (show (0 : Int) < _ by decide) ?_
  | with_reducible refine i_rI (pow_ok (Nat.le_of_ble_eq_true rfl) (Nat.le_of_ble_eq_true rfl)) ?_
  | with_reducible refine i_rI (cmulL rfl) ?_))
/-! ### keys -/
theorem roomN {k : Nat} {A : Around} (hr : Room k A) : A.units + 8 < cLine := by
  have := hr.un
  omega
abbrev kk (ns : List Int) : List Key := ns.map Sum.inl
theorem kk_v (ns : List Int) : (kk ns).map kV = ns.map V.int := by
  rw [List.map_map]
  rfl
theorem kk_inj {a b : List Int} (h : kk a = kk b) : a = b := List.map_inj_right (fun _ _ z => Sum.inl.inj z) |>.mp h
/-- integers of at most thirty digits -/
def Tiny (ns : List Int) : Prop := ∀ n, n ∈ ns → absI n < big
/-- what is_key says of a thing, for so many key columns -/
def Keyed (K : PySem.W.Frag) (H : Hp) (y : V) (m : Nat) (k : Bool) : Prop :=
  (∃ t, TyX K H y t ∧ PySem.W.kitOne K t (.type "tuple") = some false ∧ k = false) ∨
  (∃ a vs, y = .ref a ∧ H a = some (.tup vs) ∧ vs.length ≠ m ∧ k = false) ∨
  (∃ a vs js, y = .ref a ∧ H a = some (.tup vs) ∧ vs.length = m ∧ Paired (SaysV K H) vs js ∧ k = js.all id)
theorem tiny_says {K : PySem.W.Frag} {H : Hp} : ∀ {ns : List Int}, Tiny ns → ∃ js, Paired (SaysV K H) (ns.map V.int) js ∧ js.all id = true
  | [], _ => ⟨[], .nil, rfl⟩
  | n :: ns, h => by
    obtain ⟨js, p, al⟩ := tiny_says (K := K) (H := H) (ns := ns) fun m hm => h m (List.mem_cons_of_mem _ hm)
    exact ⟨true :: js, .cons (.inl ⟨n, rfl, (decide_eq_true (h n List.mem_cons_self)).symm⟩) p, by simp [al]⟩
theorem keyed_of {K : PySem.W.Frag} {H : Hp} {b : Addr} {ns : List Int} {m : Nat} (hb : H b = some (.tup (ns.map V.int))) (hl : ns.length = m) (t : Tiny ns) : Keyed K H (.ref b) m true := by
  obtain ⟨js, p, al⟩ := tiny_says (K := K) (H := H) t
  exact .inr (.inr ⟨b, _, js, rfl, hb, by rw [List.length_map]; exact hl, p, al.symm⟩)
theorem Keyed.up {K : PySem.W.Frag} {H H' : Hp} {y : V} {m : Nat} {k : Bool} (e : Same H H') (h : Keyed K H y m k) : Keyed K H' y m k := by
  rcases h with ⟨t, ty, r⟩ | ⟨a, vs, ey, ha, r⟩ | ⟨a, vs, js, ey, ha, hl, p, r⟩
  · exact .inl ⟨t, ty_up e ty, r⟩
  · exact .inr (.inl ⟨a, vs, ey, e _ _ ha, r⟩)
  · exact .inr (.inr ⟨a, vs, js, ey, e _ _ ha, hl, Paired.mapP p fun _ _ z => z.up e, r⟩)
/-- the values under the keys in their order -/
abbrev keysIn (kvs : List (List Key × V)) (nss : List (List Int)) : Prop := kvs.map (·.1) = nss.map kk
def rowsOf (kvs : List (List Key × V)) (nss : List (List Int)) : List V := (sortN nss).map fun ns => (valV kvs (kk ns)).getD .non
theorem keys_tups {H : Hp} : ∀ {kvs : List (List Key × V)} {bs : List Addr} {nss : List (List Int)}, IsKeys H kvs bs → keysIn kvs nss → TupsN H bs nss
  | [], _, [], .nil, _ => .nil
  | p :: kvs, _, ns :: nss, .cons h t, e => by
    have e1 : p.1 = kk ns := (List.cons.inj e).1
    refine .cons ?_ (keys_tups t (List.cons.inj e).2)
    rw [h, e1, kk_v]
  | [], _, _ :: _, .nil, e => by cases e
  | _ :: _, _, [], _, e => by cases e
theorem there_of {kvs : List (List Key × V)} {k : List Key} (h : k ∈ kvs.map (·.1)) : ∃ v, valV kvs k = some v := by
  have a := valV_any k kvs
  have b : (kvs.any fun kv => decide (kv.1 = k)) = true := by
    rw [List.any_eq_true]
    obtain ⟨p, hp, e⟩ := List.mem_map.mp h
    exact ⟨p, hp, decide_eq_true e⟩
  rw [b] at a
  exact Option.isSome_iff_exists.mp a.symm
section
variable {P : Program} {w : World} {K : PySem.W.Frag} {mg : Str → Option Value} {base : Heap}
abbrev s_is_key : Stmt := top 26
theorem sc_is_key : FnScope ["thing", "size", "part"] ["thing", "size"] (defScope s_is_key) := ⟨rfl, rfl, rfl, by decide +kernel, rfl, by decide +kernel, by decide +kernel⟩
def sp_is_key (K : PySem.W.Frag) : Sp := fun vs H Q _ => ∃ (y : V) (m : Nat) (k : Bool), vs = [y, .int (m : Int)] ∧ m ≤ 100 ∧ Keyed K H y m k ∧ ∀ H', Same H H' → Q (.bl k) H'
theorem ok_is_key {f fV : Addr} {fd fdV : FuncData} (F : Fun K "is_key" "is_key" s_is_key f fd)
    (F_is_value : Fun K "is_value" "is_value" s_is_value fV fdV) (B_is_value : Binds K fdV ["thing"] []) (g_is_value : mg "is_value" = some (.ref fV)) (G_is_value : FnOk P w K mg base CX0 2 fV fdV ["thing"] (sp_is_value K))
    (z_isinstance : mg "isinstance" = none) (z_tuple : mg "tuple" = none) (z_len : mg "len" = none) (z_all : mg "all" = none) : FnOk P w K mg base CX0 3 f fd ["thing", "size"] (sp_is_key K) := by
  refine F.ok sc_is_key (fun vs H Q E h => ?_) (fun cdv A outer s H vs Q E hr h => ?_)
  · obtain ⟨y, m, k, rfl, _⟩ := h
    rfl
  · obtain ⟨y, m, k, rfl, hm, ju, q⟩ := h
    refine ⟨_, (pss_one (ps_ret (pe_and (pe_callB call_isi (by rfl) z_isinstance (by decide +kernel) (pa_cons (pv 0) (pa_cons (pe_bltn (v := .ty "tuple") (u := .type "tuple") (by rfl) z_tuple (by decide +kernel) rfl) pa_nil))) (pe_and (pe_cmpR op_eq (pe_callB call_len_seq (by rfl) z_len PySem.boot_len (pa_cons (pv 0) pa_nil)) (pv 1) (nomark _)) (pe_one (pe_callB (cr_all rfl) (by rfl) z_all (by decide +kernel) (pa_cons (pe_lc (own := [("part", 2)]) (g := gName 2) (tt := tYes) rfl sc_is_key.nd (pi_tup (pv 0)) (blkOk_by (own := [("part", 2)]) (N := ["thing", "size", "part"]) (sc := defScope s_is_key) (by decide +kernel)) (fun _ _ _ _ _ => pg_name (i := 2) sc_is_key.nd rfl (Or.inl rfl)) (fun _ _ _ _ _ => pts_nil) (fun _ _ _ _ _ => (pe_call G_is_value (hr.mono (by decide)) rfl g_is_value F_is_value.kp B_is_value .nil pass0 (pa_cons (pv 2) pa_nil)))) pa_nil))))))), ?_⟩
    walk_at "rd"
    rcases ju with ⟨t, ty, kt, rfl⟩ | ⟨a, us, rfl, ha, hl, rfl⟩ | ⟨a, us, js, rfl, ha, hl, sj, rfl⟩
    · exact ⟨_, _, _, _, false, rfl, .ty "tuple", ty, kt, false, rfl, iteF (q H (Same.refl H))⟩
    · refine ⟨_, _, _, _, true, rfl, .ty "tuple", .base (.tup ha), kit_ty (by decide +kernel), true, rfl, iteT ?_⟩
      walk_at "rd"
      refine ⟨a, us, rfl, .inr (SqT.of ha), ?_⟩
      walk_at "rd"
      rw [decide_eq_false (fun z => hl (by have := V.int.inj z; omega))]
      exact iteF (q H (Same.refl H))
    · refine ⟨_, _, _, _, true, rfl, .ty "tuple", .base (.tup ha), kit_ty (by decide +kernel), true, rfl, iteT ?_⟩
      walk_at "rd"
      refine ⟨a, us, rfl, .inr (SqT.of ha), ?_⟩
      walk_at "rd"
      rw [decide_eq_true (by rw [hl])]
      refine iteT ?_
      walk_at "rd"
      unfold tLc
      walk_at "rd"
      refine ⟨a, rfl, ⟨_, SqT.of ha⟩, fun D hD => ?_⟩
      obtain ⟨H1, e1, s1, h1⟩ := new_heap (o := .lst []) hD
      refine lc_tup (K := K) (a := a) (xs := us) (fun i H' => Same H H' ∧ H' D = some (.lst ((js.take i).map V.bl))) ⟨by rw [e1]; exact s1, by rw [e1]; exact h1⟩ ?_ ?_ ?_
      · rintro i H' _ ⟨s2, _⟩
        exact SqT.of (s2 _ _ ha)
      · rintro i y H2 hy ⟨s2, h2⟩
        obtain ⟨j, ej, sv⟩ := pair_at sj hy
        have hi : i < us.length := (List.getElem?_eq_some_iff.mp hy).1
        walk_at "rd"
        refine ⟨rfl, i_yes (iteT ?_)⟩
        walk_at "rd"
        refine ⟨y, j, rfl, sv.up s2, _, h2, size_lt (by rw [List.length_map, List.length_take]; omega), Same.mut s2 hD, ?_⟩
        rw [upd_same, take_snoc ej, List.map_append]
        rfl
      · rintro H2 ⟨s2, h2⟩
        have jl : us.length = js.length := Paired.length sj
        rw [jl, List.take_length] at h2
        walk_at "rd"
        exact ⟨D, js, rfl, SqL.of h2, q H2 s2⟩
abbrev s_rows_by_key : Stmt := top 33
theorem sc_rows_by_key : FnScope ["kept", "key"] ["kept"] (defScope s_rows_by_key) := ⟨rfl, rfl, rfl, by decide +kernel, rfl, by decide +kernel, by decide +kernel⟩
def sp_rows_by_key : Sp := fun vs H Q _ => ∃ d kvs nss, vs = [.ref d] ∧ H d = some (.dT kvs) ∧ keysIn kvs nss ∧ (∀ ns, ns ∈ nss → ns ≠ []) ∧ nss.length ≤ 1000 ∧ ∀ p H', Same H H' → H' p = some (.tup (rowsOf kvs nss)) → Q (.ref p) H'
theorem ok_rows_by_key {f : Addr} {fd : FuncData} (F : Fun K "rows_by_key" "rows_by_key" s_rows_by_key f fd) (z_tuple : mg "tuple" = none) (z_sorted : mg "sorted" = none) (z_list : mg "list" = none) : FnOk P w K mg base CX0 1 f fd ["kept"] sp_rows_by_key := by
  refine F.ok sc_rows_by_key (fun vs H Q E h => ?_) (fun cdv A outer s H vs Q E hr h => ?_)
  · obtain ⟨d, kvs, nss, rfl, _⟩ := h
    rfl
  · obtain ⟨d, kvs, nss, rfl, hd, ki, hn, hz, q⟩ := h
    refine ⟨_, (pss_one (ps_ret (pe_callTy call_tuple_of (by rfl) z_tuple (by decide +kernel) (pa_cons (pe_lc (own := [("key", 1)]) (g := gName 1) (tt := tYes) rfl sc_rows_by_key.nd (pi_list (pe_callB (cr_sortN (roomN hr)) (by rfl) z_sorted (by decide +kernel) (pa_cons (pe_callTy (call_list_dT rfl) (by rfl) z_list (by decide +kernel) (pa_cons (pv 0) pa_nil)) pa_nil))) (blkOk_by (own := [("key", 1)]) (N := ["kept", "key"]) (sc := defScope s_rows_by_key) (by decide +kernel)) (fun _ _ _ _ _ => pg_name (i := 1) sc_rows_by_key.nd rfl (Or.inl rfl)) (fun _ _ _ _ _ => pts_nil) (fun _ _ _ _ _ => (pe_dget (Nat.lt_of_le_of_lt (Nat.add_le_add_left (by decide : 1 ≤ 64) _) hr.units) (pv 0) (pv 1) (fun _ _ => rfl)))) pa_nil)))), ?_⟩
    walk_at "rd"
    unfold tLc
    walk_at "rd"
    refine ⟨d, kvs, rfl, .inl hd, fun l bs hl ik => ?_⟩
    obtain ⟨H1, e1, s1, h1⟩ := new_heap (o := .lst (bs.map V.ref)) hl
    rw [e1]
    walk_at "rd"
    have tb : TupsN H1 bs nss := Paired.mapP (keys_tups ik ki) fun _ _ z => s1 _ _ z
    refine ⟨l, bs, nss, rfl, SqL.of h1, tb, hn, fun l2 bs' hl2 tb' => ?_⟩
    obtain ⟨H2, e2, s2, h2⟩ := new_heap (o := .lst (bs'.map V.ref)) hl2
    rw [e2]
    have tb2 : TupsN H2 bs' (sortN nss) := Paired.mapP tb' fun _ _ z => s2 _ _ z
    have s02 : Same H H2 := fun b o z => s2 _ _ (s1 _ _ z)
    have bl : bs'.length = (sortN nss).length := Paired.length tb2
    have sl : (sortN nss).length = nss.length := (sortN_perm nss).length_eq
    refine ⟨l2, rfl, ⟨_, SqL.of h2⟩, fun D hD => ?_⟩
    obtain ⟨H3, e3, s3, h3⟩ := new_heap (o := .lst []) hD
    refine lc_list (K := K) (a := l2) (xs := bs'.map V.ref) (fun i H' => Same H2 H' ∧ H' D = some (.lst ((rowsOf kvs nss).take i))) ⟨by rw [e3]; exact s3, by rw [e3]; exact h3⟩ ?_ ?_ ?_
    · rintro i H' _ ⟨s4, _⟩
      exact SqL.of (s4 _ _ h2)
    · rintro i y H4 hy ⟨s4, h4⟩
      rw [List.getElem?_map] at hy
      obtain ⟨b, hb, rfl⟩ := Option.map_eq_some_iff.mp hy
      obtain ⟨ns, en, hbn⟩ := pair_at tb2 hb
      have mem : ns ∈ nss := (sortN_perm nss).mem_iff.mp (List.mem_of_getElem? en)
      obtain ⟨v, ev⟩ := there_of (kvs := kvs) (k := kk ns) (by rw [ki]; exact List.mem_map.mpr ⟨ns, mem, rfl⟩)
      walk_at "rd"
      refine ⟨rfl, i_yes (iteT ?_)⟩
      unfold tDGet
      walk_at "rd"
      have g : DGet H4 d (.ref b) (valV kvs (kk ns)) := DGet.t (s4 _ _ (s02 _ _ hd)) (by rw [kk_v]; exact s4 _ _ hbn)
      rw [ev] at g
      have er : (rowsOf kvs nss)[i]? = some v := by
        unfold rowsOf
        rw [List.getElem?_map, en, Option.map_some, ev]
        rfl
      refine ⟨d, v, rfl, g, _, h4, size_lt ?_, Same.mut s4 hD, ?_⟩
      · rw [List.length_take]
        unfold rowsOf
        rw [List.length_map]
        omega
      · rw [upd_same, take_snoc er]
    · rintro H4 ⟨s4, h4⟩
      have e : (bs'.map V.ref).length = (rowsOf kvs nss).length := by
        unfold rowsOf
        rw [List.length_map, List.length_map, bl]
      rw [e, List.take_length] at h4
      walk_at "rd"
      refine ⟨D, _, rfl, .inl ⟨SqL.of h4, fun p hp => ?_⟩⟩
      obtain ⟨H5, e5, s5, h5⟩ := new_heap (o := .tup (rowsOf kvs nss)) hp
      rw [e5]
      exact q p H5 (fun b o z => s5 _ _ (s4 _ _ (s02 _ _ z))) h5
end
end Spk

set_option Elab.async false
set_option linter.all false
set_option maxRecDepth 100000
set_option maxHeartbeats 4000000
namespace Spk
open PySem L2
local macro_rules | `(tactic| walk_at "rd") => `(tactic| repeat (first
  | with_reducible refine i_seq ?_ | with_reducible refine i_asg ?_ | with_reducible refine i_ret ?_ | with_reducible refine i_ifS ?_ | with_reducible refine i_if ?_
  | with_reducible refine i_for ?_ | with_reducible refine i_iL ?_ | with_reducible refine i_iT ?_ | with_reducible refine i_ckw ?_ | with_reducible refine i_cm ?_ | with_reducible refine And.intro (rfl : V.ref _ = V.ref _) ?_ | with_reducible refine i_rng1 ?_ | with_reducible refine i_bm ?_ | with_reducible refine i_bm0 ?_
  | with_reducible refine i_drop ?_ | with_reducible refine i_next ?_
  | with_reducible refine i_var rfl ?_ | with_reducible refine i_c ?_ | with_reducible refine i_op ?_ | with_reducible refine i_un ?_ | with_reducible refine i_name ?_
  | with_reducible refine i_rI0 ?_ | with_reducible refine i_rU ?_ | with_reducible refine i_rEq rfl ?_ | with_reducible refine i_rNe rfl ?_
  | with_reducible refine i_test ?_ | with_reducible refine i_tB ?_ | with_reducible refine i_and ?_ | with_reducible refine i_or ?_ | with_reducible refine i_not ?_
  | with_reducible refine i_andV ?_ | with_reducible refine i_orV ?_ | with_reducible refine i_notV ?_
  | with_reducible refine i_cons ?_ | with_reducible refine i_nil ?_ | with_reducible refine i_cb ?_ | with_reducible refine i_call ?_ | with_reducible refine i_bl ?_
  | with_reducible refine i_tup ?_ | with_reducible refine i_lst ?_ | with_reducible refine i_par ?_ | with_reducible refine i_gcons ?_ | with_reducible refine i_gnil ?_
  | with_reducible refine And.intro (rfl : V.non = V.non) ?_ | with_reducible refine i_ixT (by assumption) rfl ?_ | with_reducible refine i_ixL (by assumption) rfl ?_ | with_reducible refine i_gtup (by assumption) rfl ?_
  | with_reducible refine i_gsub ?_
  | with_reducible refine Or.inl (Exists.intro _ (And.intro (rfl : [V.int _] = [V.int _]) ?_)) | with_reducible refine Exists.intro _ (And.intro (rfl : [V.int _] = [V.int _]) ?_)
  | with_reducible refine Or.inr (Exists.intro _ (And.intro (rfl : [V.bl _] = [V.bl _]) ?_))
  | with_reducible refine Exists.intro _ (Exists.intro _ (And.intro (rfl : [V.int _, V.int _] = [V.int _, V.int _]) ?_))
  | with_reducible refine Exists.intro _ (Exists.intro _ (And.intro (rfl : [V.ref _] = [V.ref _]) (And.intro (Or.inl (SqL.of (by assumption))) ?_)))
  | with_reducible refine i_rI (show (0 : Int) < _ by assumption) ?_ | with_reducible refine i_rI (show (0 : Int) < _ by decide) ?_
  | with_reducible refine i_rI (pow_ok (Nat.le_of_ble_eq_true rfl) (Nat.le_of_ble_eq_true rfl)) ?_
  | with_reducible refine i_rI (cmulL rfl) ?_))
/-! ### the class Truth -/
abbrev tflds (tx fx kd od sd : Addr) (n : Nat) : List (Str × V) := [("table", .ref tx), ("region", .ref fx), ("kept", .ref kd), ("owners", .ref od), ("stamps", .ref sd), ("changes", .int (n : Int))]
section
variable {tx fx kd od sd : Addr} {n : Nat}
theorem lt_table : (tflds tx fx kd od sd n).lookup ("table" : Str) = some (.ref tx) := by
  simp only [List.lookup, beq_self_eq_true]
theorem lt_region : (tflds tx fx kd od sd n).lookup ("region" : Str) = some (.ref fx) := by
  simp only [List.lookup, beq_self_eq_true, show (("region" : Str) == "table") = false from rfl]
theorem lt_kept : (tflds tx fx kd od sd n).lookup ("kept" : Str) = some (.ref kd) := by
  simp only [List.lookup, beq_self_eq_true, show (("kept" : Str) == "table") = false from rfl, show (("kept" : Str) == "region") = false from rfl]
theorem lt_owners : (tflds tx fx kd od sd n).lookup ("owners" : Str) = some (.ref od) := by
  simp only [List.lookup, beq_self_eq_true, show (("owners" : Str) == "table") = false from rfl, show (("owners" : Str) == "region") = false from rfl, show (("owners" : Str) == "kept") = false from rfl]
theorem lt_stamps : (tflds tx fx kd od sd n).lookup ("stamps" : Str) = some (.ref sd) := by
  simp only [List.lookup, beq_self_eq_true, show (("stamps" : Str) == "table") = false from rfl, show (("stamps" : Str) == "region") = false from rfl, show (("stamps" : Str) == "kept") = false from rfl, show (("stamps" : Str) == "owners") = false from rfl]
theorem lt_changes : (tflds tx fx kd od sd n).lookup ("changes" : Str) = some (.int (n : Int)) := by
  simp only [List.lookup, beq_self_eq_true, show (("changes" : Str) == "table") = false from rfl, show (("changes" : Str) == "region") = false from rfl, show (("changes" : Str) == "kept") = false from rfl, show (("changes" : Str) == "owners") = false from rfl, show (("changes" : Str) == "stamps") = false from rfl]
theorem lt_meth {m : Str} (h : m = "insert" ∨ m = "update" ∨ m = "delete" ∨ m = "change" ∨ m = "write" ∨ m = "row_of" ∨ m = "stamp_of") : (tflds tx fx kd od sd n).lookup m = none := by
  rcases h with rfl | rfl | rfl | rfl | rfl | rfl | rfl <;> rfl
end
structure ClsU (K : PySem.W.Frag) (mg : Str → Option Value) (U fI : Addr) : Prop where
  cl : Cls K U
  nT : NoAttr K U "table"
  nR : NoAttr K U "region"
  nK : NoAttr K U "kept"
  nO : NoAttr K U "owners"
  nS : NoAttr K U "stamps"
  nC : NoAttr K U "changes"
  M : Mk K U fI
  g_U : mg "Truth" = some (.ref U)
/-- the methods of the class -/
structure ClsUN (K : PySem.W.Frag) (U mI mU mD mC mW mR mS fL fC : Addr) : Prop where
  insert : Meth K U "insert" mI
  update : Meth K U "update" mU
  delete : Meth K U "delete" mD
  change : Meth K U "change" mC
  write : Meth K U "write" mW
  row_of : Meth K U "row_of" mR
  stamp_of : Meth K U "stamp_of" mS
  leF : PySem.W.findIn K (.ref U) "__len__" = some (some (.ref fL))
  leI : PySem.W.isFn K (.ref fL) = true
  inF : PySem.W.findIn K (.ref U) "__contains__" = some (some (.ref fC))
  inI : PySem.W.isFn K (.ref fC) = true
/-- a table as it is made -/
structure TbOk (t : Tb) : Prop where
  cz : t.cs.length ≤ 4
  kz : t.ks.length ≤ 2
  k0 : t.ks ≠ []
  sub : ∀ c, c ∈ t.ks → c ∈ t.cs
  nd : t.cs.Nodup
  kn : t.ks.Nodup
  fz : t.fs.length ≤ 4
  fsub : ∀ c, c ∈ t.fs → c ∈ t.cs
  uz : t.us.length ≤ 4
  usub : ∀ c, c ∈ t.us → c ∈ t.cs
  un : t.us.Nodup
/-- what made rows tell: the table, the region, the rows by key, the owners of values, the stamps by key, the number of changes -/
structure Tw where
  t : Tb
  r : Fi.Tr
  kvs : List (List Key × V)
  os : List (List Key × V)
  sts : List (List Key × V)
  n : Nat
/-- made rows at x, with their dicts -/
structure Tru (U C D : Addr) (H : Hp) (x kd od sd : Addr) (z : Tw) : Prop where
  ex : ∃ dx tx fx, H x = some (.ins U dx (tflds tx fx kd od sd z.n)) ∧ Tab C H tx z.t ∧ Fi.Fil D H fx z.r
  hk : H kd = some (.dT z.kvs)
  ho : H od = some (.dT z.os)
  hs : H sd = some (.dT z.sts)
  n1 : kd ≠ od
  n2 : kd ≠ sd
  n3 : od ≠ sd
  ok : TbOk z.t
  rc : ∀ c, c ∈ z.r.cols → c ∈ z.t.ks
  dp : z.r.deep ≤ 20
theorem Tru.up {U C D : Addr} {H H' : Hp} {x kd od sd : Addr} {z : Tw} (e : Same H H') (h : Tru U C D H x kd od sd z) : Tru U C D H' x kd od sd z := by
  obtain ⟨⟨dx, tx, fx, h1, h2, h3⟩, h4, h5, h6, n1, n2, n3, o, r, d⟩ := h
  exact ⟨⟨dx, tx, fx, e _ _ h1, h2.up e, h3.up e⟩, e _ _ h4, e _ _ h5, e _ _ h6, n1, n2, n3, o, r, d⟩
theorem Tru.keep {U C D : Addr} {H H' : Hp} {x kd od sd : Addr} {z : Tw} (e : Keep H H') (h : Tru U C D H x kd od sd z) : Tru U C D H' x kd od sd z := by
  obtain ⟨⟨dx, tx, fx, h1, h2, h3⟩, h4, h5, h6, n1, n2, n3, o, r, d⟩ := h
  exact ⟨⟨dx, tx, fx, e _ _ rfl h1, h2.keep e, h3.keep e⟩, e _ _ rfl h4, e _ _ rfl h5, e _ _ rfl h6, n1, n2, n3, o, r, d⟩
/-- a key at b -/
structure KeyAt (H : Hp) (b : Addr) (ns : List Int) (m : Nat) : Prop where
  at_ : H b = some (.tup (ns.map V.int))
  z : ns.length = m
  tiny : Tiny ns
theorem KeyAt.up {H H' : Hp} {b : Addr} {ns : List Int} {m : Nat} (e : Same H H') (h : KeyAt H b ns m) : KeyAt H' b ns m := ⟨e _ _ h.at_, h.z, h.tiny⟩
theorem KeyAt.get {H : Hp} {b a : Addr} {ns : List Int} {m : Nat} {kvs : List (List Key × V)} (h : KeyAt H b ns m) (ha : H a = some (.dT kvs)) : DGet H a (.ref b) (valV kvs (kk ns)) := DGet.t ha (by rw [kk_v]; exact h.at_)
theorem KeyAt.keyed {K : PySem.W.Frag} {H : Hp} {b : Addr} {ns : List Int} {m : Nat} (h : KeyAt H b ns m) : Keyed K H (.ref b) m true := keyed_of h.at_ h.z h.tiny
/-- a row, or none -/
def RowV (H : Hp) (v : V) (m : Nat) : Prop := v = .non ∨ ∃ r us, v = .ref r ∧ H r = some (.tup us) ∧ us.length = m
theorem RowV.up {H H' : Hp} {v : V} {m : Nat} (e : Same H H') (h : RowV H v m) : RowV H' v m := h.elim .inl fun ⟨r, us, a, b, c⟩ => .inr ⟨r, us, a, e _ _ b, c⟩
section
variable {P : Program} {w : World} {K : PySem.W.Frag} {mg : Str → Option Value} {base : Heap} {C fI p g U D fT : Addr} {mc : Value}
abbrev s_Truth__init : Stmt := inClass (top 30) 0
theorem sc_Truth__init : FnScope ["self", "table", "region"] ["self", "table", "region"] (defScope s_Truth__init) := ⟨rfl, rfl, rfl, by decide +kernel, rfl, by decide +kernel, by decide +kernel⟩
def sp_uinit (U : Addr) : Sp := fun vs H Q _ => ∃ x dx tx fx, vs = [.ref x, .ref tx, .ref fx] ∧ H x = some (.ins U dx []) ∧ ∀ kd od sd H', Off x H H' → H kd = none → H od = none → H sd = none → kd ≠ od → kd ≠ sd → od ≠ sd → kd ≠ x → od ≠ x → sd ≠ x →
  H' x = some (.ins U dx (tflds tx fx kd od sd 0)) → H' kd = some (.dT []) → H' od = some (.dT []) → H' sd = some (.dT []) → Q .non H'
theorem none_off {x a : Addr} {H H' : Hp} (e : Off x H H') (h : H' a = none) (n : a ≠ x) : H a = none := by
  cases z : H a with
  | none => rfl
  | some o => exact absurd (e _ _ n z) (by rw [h]; exact fun z => nomatch z)
theorem ok_uinit {fd : FuncData} (F : Fun K "__init__" "Truth.__init__" s_Truth__init fT fd) (TU : ClsU K mg U fT) : FnOk P w K mg base CX0 1 fT fd ["self", "table", "region"] (sp_uinit U) := by
  refine F.ok sc_Truth__init (fun vs H Q E h => ?_) (fun cdv A outer s H vs Q E hr h => ?_)
  · obtain ⟨x, dx, tx, fx, rfl, _⟩ := h
    rfl
  · obtain ⟨x, dx, tx, fx, rfl, hx, q⟩ := h
    refine ⟨_, (pss_cons (ps_fld (pv 0) (pv 1) rfl)
 (pss_cons (ps_fld (pv 0) (pv 2) rfl)
 (pss_cons (ps_fld (pv 0) pe_dnewT rfl)
 (pss_cons (ps_fld (pv 0) pe_dnewT rfl)
 (pss_cons (ps_fld (pv 0) pe_dnewT rfl)
 (pss_one (ps_fld (pv 0) pe_int rfl))))))), ?_⟩
    walk_at "rd"
    refine i_fld ?_
    walk_at "rd"
    refine ⟨x, U, dx, _, rfl, hx, TU.cl, TU.nT, (by show 0 < 1000; decide), ?_⟩
    obtain ⟨H1, e1⟩ : ∃ H1, upd H x (.ins U dx (putF "table" (.ref tx) [])) = H1 := ⟨_, rfl⟩
    have o1 : Off x H H1 := by rw [← e1]; exact off_upd
    have h1 : H1 x = some (.ins U dx [("table", .ref tx)]) := by rw [← e1, upd_same]; rfl
    rw [e1]
    walk_at "rd"
    refine i_fld ?_
    walk_at "rd"
    refine ⟨x, U, dx, _, rfl, h1, TU.cl, TU.nR, (by show 1 < 1000; decide), ?_⟩
    obtain ⟨H2, e2⟩ : ∃ H2, upd H1 x (.ins U dx (putF "region" (.ref fx) [("table", .ref tx)])) = H2 := ⟨_, rfl⟩
    have o2 : Off x H H2 := o1.trans (by rw [← e2]; exact off_upd)
    have h2 : H2 x = some (.ins U dx [("table", .ref tx), ("region", .ref fx)]) := by rw [← e2, upd_same]; rfl
    rw [e2]
    walk_at "rd"
    refine i_fld ?_
    unfold tDNewT
    intro kd hkd
    obtain ⟨H3, e3, s3, h3⟩ := new_heap (o := .dT []) hkd
    rw [e3]
    walk_at "rd"
    have kx : kd ≠ x := fun z => by rw [z, h2] at hkd; cases hkd
    refine ⟨x, U, dx, _, rfl, s3 _ _ h2, TU.cl, TU.nK, (by show 2 < 1000; decide), ?_⟩
    obtain ⟨H4, e4⟩ : ∃ H4, upd H3 x (.ins U dx (putF "kept" (.ref kd) [("table", .ref tx), ("region", .ref fx)])) = H4 := ⟨_, rfl⟩
    have o34 : Off x H3 H4 := by rw [← e4]; exact off_upd
    have o4 : Off x H H4 := (o2.trans (off_of s3)).trans o34
    have h4 : H4 x = some (.ins U dx [("table", .ref tx), ("region", .ref fx), ("kept", .ref kd)]) := by rw [← e4, upd_same]; rfl
    have k4 := o34 _ _ kx h3
    rw [e4]
    walk_at "rd"
    refine i_fld ?_
    intro od hod
    obtain ⟨H5, e5, s5, h5⟩ := new_heap (o := .dT []) hod
    rw [e5]
    walk_at "rd"
    have ox : od ≠ x := fun z => by rw [z, h4] at hod; cases hod
    have ko : kd ≠ od := ne_of_none k4 hod
    refine ⟨x, U, dx, _, rfl, s5 _ _ h4, TU.cl, TU.nO, (by show 3 < 1000; decide), ?_⟩
    obtain ⟨H6, e6⟩ : ∃ H6, upd H5 x (.ins U dx (putF "owners" (.ref od) [("table", .ref tx), ("region", .ref fx), ("kept", .ref kd)])) = H6 := ⟨_, rfl⟩
    have o56 : Off x H5 H6 := by rw [← e6]; exact off_upd
    have o46 : Off x H4 H6 := (off_of s5).trans o56
    have h6 : H6 x = some (.ins U dx [("table", .ref tx), ("region", .ref fx), ("kept", .ref kd), ("owners", .ref od)]) := by rw [← e6, upd_same]; rfl
    have k6 := o46 _ _ kx k4
    have d6 := o56 _ _ ox h5
    rw [e6]
    walk_at "rd"
    refine i_fld ?_
    intro sd hsd
    obtain ⟨H7, e7, s7, h7⟩ := new_heap (o := .dT []) hsd
    rw [e7]
    walk_at "rd"
    have sx : sd ≠ x := fun z => by rw [z, h6] at hsd; cases hsd
    have ks : kd ≠ sd := ne_of_none k6 hsd
    have os : od ≠ sd := ne_of_none d6 hsd
    refine ⟨x, U, dx, _, rfl, s7 _ _ h6, TU.cl, TU.nS, (by show 4 < 1000; decide), ?_⟩
    obtain ⟨H8, e8⟩ : ∃ H8, upd H7 x (.ins U dx (putF "stamps" (.ref sd) [("table", .ref tx), ("region", .ref fx), ("kept", .ref kd), ("owners", .ref od)])) = H8 := ⟨_, rfl⟩
    have o78 : Off x H7 H8 := by rw [← e8]; exact off_upd
    have o68 : Off x H6 H8 := (off_of s7).trans o78
    have h8 : H8 x = some (.ins U dx [("table", .ref tx), ("region", .ref fx), ("kept", .ref kd), ("owners", .ref od), ("stamps", .ref sd)]) := by rw [← e8, upd_same]; rfl
    have k8 := o68 _ _ kx k6
    have d8 := o68 _ _ ox d6
    have t8 := o78 _ _ sx h7
    rw [e8]
    walk_at "rd"
    dsimp only
    refine i_fld ?_
    walk_at "rd"
    refine ⟨x, U, dx, _, rfl, h8, TU.cl, TU.nC, (by show 5 < 1000; decide), ?_⟩
    obtain ⟨H9, e9⟩ : ∃ H9, upd H8 x (.ins U dx (putF "changes" (.int 0) [("table", .ref tx), ("region", .ref fx), ("kept", .ref kd), ("owners", .ref od), ("stamps", .ref sd)])) = H9 := ⟨_, rfl⟩
    have o89 : Off x H8 H9 := by rw [← e9]; exact off_upd
    have h9 : H9 x = some (.ins U dx (tflds tx fx kd od sd 0)) := by rw [← e9, upd_same]; rfl
    rw [e9]
    have o49 : Off x H4 H9 := (o46.trans o68).trans o89
    exact q kd od sd H9 (o4.trans o49) (none_off o2 hkd kx) (none_off o4 hod ox) (none_off (o4.trans o46) hsd sx) ko ks os kx ox sx h9 (o89 _ _ kx k8) (o89 _ _ ox d8) (o89 _ _ sx t8)
abbrev spU (U : Addr) : Sp := fun vs H Q E => sp_uinit U (vs ++ []) H Q E
theorem mk_tru {H : Hp} {tx fx : Addr} {t : Tb} {r : Fi.Tr} {Q : VK} (ht : Tab C H tx t) (hf : Fi.Fil D H fx r) (ok : TbOk t) (rc : ∀ c, c ∈ r.cols → c ∈ t.ks) (dp : r.deep ≤ 20)
    (q : ∀ x kd od sd H', Same H H' → H x = none → H kd = none → H od = none → H sd = none → x ≠ kd → x ≠ od → x ≠ sd → Tru U C D H' x kd od sd ⟨t, r, [], [], [], 0⟩ → Q (.ref x) H') :
    ∀ x dx, H x = none → H dx = none → dx ≠ x → spU U [.ref x, .ref tx, .ref fx] (upd (upd H dx (.own x)) x (.ins U dx [])) (fun v H3 => v = .non ∧ Q (.ref x) H3) E0 := by
  intro x dx hx hdx hne
  refine ⟨x, dx, tx, fx, rfl, upd_same, fun kd od sd H' off hk ho hs n1 n2 n3 kx ox sx h1 h2 h3 h4 => ⟨rfl, ?_⟩⟩
  have s : Same H H' := fun b o e => by
    have b1 : b ≠ x := ne_of_none e hx
    have b2 : b ≠ dx := ne_of_none e hdx
    exact off b o b1 (by rw [upd_ne b1, upd_ne b2]; exact e)
  have fresh : ∀ {a : Addr}, a ≠ x → (upd (upd H dx (.own x)) x (.ins U dx [])) a = none → H a = none := fun {a} n h => by
    rw [upd_ne n] at h
    by_cases e : a = dx
    · rw [e, upd_same] at h
      cases h
    · rw [upd_ne e] at h
      exact h
  exact q x kd od sd H' s hx (fresh kx hk) (fresh ox ho) (fresh sx hs) (Ne.symm kx) (Ne.symm ox) (Ne.symm sx) ⟨⟨dx, tx, fx, h1, ht.up s, hf.up s⟩, h2, h3, h4, n1, n2, n3, ok, rc, dp⟩
abbrev s_Truth_rows : Stmt := inClass (top 30) 6
theorem sc_Truth_rows : FnScope ["self"] ["self"] (defScope s_Truth_rows) := ⟨rfl, rfl, rfl, by decide +kernel, rfl, by decide +kernel, by decide +kernel⟩
def sp_urows (U C D : Addr) : Sp := fun vs H Q _ => ∃ x kd od sd z nss, vs = [.ref x] ∧ Tru U C D H x kd od sd z ∧ keysIn z.kvs nss ∧ (∀ ns, ns ∈ nss → ns ≠ []) ∧ nss.length ≤ 1000 ∧ ∀ p H', Same H H' → H' p = some (.tup (rowsOf z.kvs nss)) → Q (.ref p) H'
theorem ok_urows {f fR : Addr} {fd fdR : FuncData} (F : Fun K "rows" "Truth.rows" s_Truth_rows f fd) (TU : ClsU K mg U fT)
    (F_rows_by_key : Fun K "rows_by_key" "rows_by_key" s_rows_by_key fR fdR) (B_rows_by_key : Binds K fdR ["kept"] []) (g_rows_by_key : mg "rows_by_key" = some (.ref fR)) (G_rows_by_key : FnOk P w K mg base CX0 1 fR fdR ["kept"] sp_rows_by_key) :
    FnOk P w K mg base CX0 2 f fd ["self"] (sp_urows U C D) := by
  refine F.ok sc_Truth_rows (fun vs H Q E h => ?_) (fun cdv A outer s H vs Q E hr h => ?_)
  · obtain ⟨x, kd, od, sd, z, nss, rfl, _⟩ := h
    rfl
  · obtain ⟨x, kd, od, sd, z, nss, rfl, tr, ki, hn, hz, q⟩ := h
    refine ⟨_, (pss_one (ps_ret (pe_call G_rows_by_key (hr.mono (by decide)) rfl g_rows_by_key F_rows_by_key.kp B_rows_by_key .nil pass0 (pa_cons (pe_fld (pv 0) rfl) pa_nil)))), ?_⟩
    obtain ⟨dx, tx, fx, hx, ht, hf⟩ := tr.ex
    walk_at "rd"
    refine ⟨_, rfl, x, U, dx, _, _, rfl, hx, TU.cl, TU.nK, lt_kept, ?_⟩
    walk_at "rd"
    exact ⟨kd, z.kvs, nss, rfl, tr.hk, ki, hn, hz, q⟩
abbrev s_Truth_stamp : Stmt := inClass (top 30) 7
theorem sc_Truth_stamp : FnScope ["self"] ["self"] (defScope s_Truth_stamp) := ⟨rfl, rfl, rfl, by decide +kernel, rfl, by decide +kernel, by decide +kernel⟩
def sp_ustamp (U C D : Addr) : Sp := fun vs H Q _ => ∃ x kd od sd z, vs = [.ref x] ∧ Tru U C D H x kd od sd z ∧ Q (.int (z.n : Int)) H
theorem ok_ustamp {f : Addr} {fd : FuncData} (F : Fun K "stamp" "Truth.stamp" s_Truth_stamp f fd) (TU : ClsU K mg U fT) : FnOk P w K mg base CX0 1 f fd ["self"] (sp_ustamp U C D) := by
  refine F.ok sc_Truth_stamp (fun vs H Q E h => ?_) (fun cdv A outer s H vs Q E hr h => ?_)
  · obtain ⟨x, kd, od, sd, z, rfl, _⟩ := h
    rfl
  · obtain ⟨x, kd, od, sd, z, rfl, tr, q⟩ := h
    refine ⟨_, (pss_one (ps_ret (pe_fld (pv 0) rfl))), ?_⟩
    obtain ⟨dx, tx, fx, hx, ht, hf⟩ := tr.ex
    walk_at "rd"
    exact ⟨_, rfl, x, U, dx, _, _, rfl, hx, TU.cl, TU.nC, lt_changes, q⟩
abbrev s_Truth__len : Stmt := inClass (top 30) 11
theorem sc_Truth__len : FnScope ["self"] ["self"] (defScope s_Truth__len) := ⟨rfl, rfl, rfl, by decide +kernel, rfl, by decide +kernel, by decide +kernel⟩
def sp_ulen (U C D : Addr) : Sp := fun vs H Q _ => ∃ x kd od sd z, vs = [.ref x] ∧ Tru U C D H x kd od sd z ∧ Q (.int (z.kvs.length : Int)) H
theorem ok_ulen {f : Addr} {fd : FuncData} (F : Fun K "__len__" "Truth.__len__" s_Truth__len f fd) (TU : ClsU K mg U fT) (z_len : mg "len" = none) : FnOk P w K mg base CX0 1 f fd ["self"] (sp_ulen U C D) := by
  refine F.ok sc_Truth__len (fun vs H Q E h => ?_) (fun cdv A outer s H vs Q E hr h => ?_)
  · obtain ⟨x, kd, od, sd, z, rfl, _⟩ := h
    rfl
  · obtain ⟨x, kd, od, sd, z, rfl, tr, q⟩ := h
    refine ⟨_, (pss_one (ps_ret (pe_callB call_len_dT (by rfl) z_len PySem.boot_len (pa_cons (pe_fld (pv 0) rfl) pa_nil)))), ?_⟩
    obtain ⟨dx, tx, fx, hx, ht, hf⟩ := tr.ex
    walk_at "rd"
    refine ⟨_, rfl, x, U, dx, _, _, rfl, hx, TU.cl, TU.nK, lt_kept, ?_⟩
    walk_at "rd"
    exact ⟨kd, z.kvs, rfl, tr.hk, q⟩
/-- a thing asked for: a key, or none of so many columns -/
def AskV (K : PySem.W.Frag) (H : Hp) (y : V) (m : Nat) (o : Option (List Int)) : Prop := (∃ b ns, y = .ref b ∧ KeyAt H b ns m ∧ o = some ns) ∨ (Keyed K H y m false ∧ o = none)
theorem AskV.up {K : PySem.W.Frag} {H H' : Hp} {y : V} {m : Nat} {o : Option (List Int)} (e : Same H H') (h : AskV K H y m o) : AskV K H' y m o := h.elim (fun ⟨b, ns, a, k, c⟩ => .inl ⟨b, ns, a, k.up e, c⟩) fun ⟨a, b⟩ => .inr ⟨a.up e, b⟩
def gotV (kvs : List (List Key × V)) (o : Option (List Int)) (d : V) : V := match o with
  | some ns => (valV kvs (kk ns)).getD d
  | none => d
def hasV (kvs : List (List Key × V)) (o : Option (List Int)) : Bool := match o with
  | some ns => (valV kvs (kk ns)).isSome
  | none => false
abbrev s_Truth__contains : Stmt := inClass (top 30) 12
theorem sc_Truth__contains : FnScope ["self", "key"] ["self", "key"] (defScope s_Truth__contains) := ⟨rfl, rfl, rfl, by decide +kernel, rfl, by decide +kernel, by decide +kernel⟩
def sp_ucon (K : PySem.W.Frag) (U C D : Addr) : Sp := fun vs H Q _ => ∃ x kd od sd z y o, vs = [.ref x, y] ∧ Tru U C D H x kd od sd z ∧ AskV K H y z.t.ks.length o ∧ ∀ H', Same H H' → Q (.bl (hasV z.kvs o)) H'
theorem ok_ucon {f fK : Addr} {fd fdK : FuncData} (F : Fun K "__contains__" "Truth.__contains__" s_Truth__contains f fd) (T : ClsT K mg C fI mc p g) (TU : ClsU K mg U fT)
    (F_is_key : Fun K "is_key" "is_key" s_is_key fK fdK) (B_is_key : Binds K fdK ["thing", "size"] []) (g_is_key : mg "is_key" = some (.ref fK)) (G_is_key : FnOk P w K mg base CX0 3 fK fdK ["thing", "size"] (sp_is_key K)) (z_len : mg "len" = none) :
    FnOk P w K mg base CX0 4 f fd ["self", "key"] (sp_ucon K U C D) := by
  refine F.ok sc_Truth__contains (fun vs H Q E h => ?_) (fun cdv A outer s H vs Q E hr h => ?_)
  · obtain ⟨x, kd, od, sd, z, y, o, rfl, _⟩ := h
    rfl
  · obtain ⟨x, kd, od, sd, z, y, o, rfl, tr, as, q⟩ := h
    refine ⟨_, (pss_one (ps_ret (pe_and (pe_call G_is_key (hr.mono (by decide)) rfl g_is_key F_is_key.kp B_is_key .nil pass0 (pa_cons (pv 1) (pa_cons (pe_callB call_len_seq (by rfl) z_len PySem.boot_len (pa_cons (pe_fld (pe_fld (pv 0) rfl) rfl) pa_nil)) pa_nil))) (pe_one (pe_cmp (pc_din (Nat.lt_of_le_of_lt (Nat.add_le_add_left (by decide : 1 ≤ 64) _) hr.units) (pv 1) (pe_fld (pv 0) rfl))))))), ?_⟩
    obtain ⟨dx, tx, fx, hx, ⟨dt, tc, tk, tf, tu, htx, hc, hk, _⟩, hf⟩ := tr.ex
    walk_at "rd"
    refine ⟨_, rfl, x, U, dx, _, _, rfl, hx, TU.cl, TU.nT, lt_table, tx, C, dt, _, _, rfl, htx, T.cl, T.nK, lk_key, ?_⟩
    walk_at "rd"
    refine ⟨tk, _, rfl, .inr (SqT.of hk), ?_⟩
    walk_at "rd"
    rw [List.length_map]
    have kz := tr.ok.kz
    rcases as with ⟨b, ns, rfl, ka, rfl⟩ | ⟨kn, rfl⟩
    · refine ⟨_, _, true, rfl, by omega, ka.keyed, fun H1 s1 => ⟨_, rfl, iteT ?_⟩⟩
      walk_at "rd"
      unfold tDIn
      walk_at "rd"
      refine ⟨_, rfl, x, U, dx, _, _, rfl, s1 _ _ hx, TU.cl, TU.nK, lt_kept, ?_⟩
      exact ⟨kd, _, rfl, (ka.up s1).get (s1 _ _ tr.hk), q H1 s1⟩
    · exact ⟨_, _, false, rfl, by omega, kn, fun H1 s1 => ⟨_, rfl, iteF (q H1 s1)⟩⟩
abbrev mCon (K : PySem.W.Frag) (U C D : Addr) : Sp := fun vs H Q E => sp_ucon K U C D (vs ++ []) H Q E
abbrev s_Truth_row_of : Stmt := inClass (top 30) 8
theorem sc_Truth_row_of : FnScope ["self", "key"] ["self", "key"] (defScope s_Truth_row_of) := ⟨rfl, rfl, rfl, by decide +kernel, rfl, by decide +kernel, by decide +kernel⟩
def sp_urow (K : PySem.W.Frag) (U C D : Addr) : Sp := fun vs H Q _ => ∃ x kd od sd z y o, vs = [.ref x, y] ∧ Tru U C D H x kd od sd z ∧ AskV K H y z.t.ks.length o ∧ ∀ H', Same H H' → Q (gotV z.kvs o .non) H'
theorem ok_urow {f mI mU mD mC mW mR mS fL fC : Addr} {fd : FuncData} (F : Fun K "row_of" "Truth.row_of" s_Truth_row_of f fd) (TU : ClsU K mg U fT) (UN : ClsUN K U mI mU mD mC mW mR mS fL fC) (RU_contains : FnR P w K mg base CX0 4 fC (mCon K U C D)) :
    FnOk P w K mg base CX0 5 f fd ["self", "key"] (sp_urow K U C D) := by
  refine F.ok sc_Truth_row_of (fun vs H Q E h => ?_) (fun cdv A outer s H vs Q E hr h => ?_)
  · obtain ⟨x, kd, od, sd, z, y, o, rfl, _⟩ := h
    rfl
  · obtain ⟨x, kd, od, sd, z, y, o, rfl, tr, as, q⟩ := h
    refine ⟨_, (pss_one (ps_ret (pe_ifExp (pt_cmpR (op_inO RU_contains (hr.mono (by decide)) UN.inF UN.inI) (pv 1) (pv 0) (by rfl)) (pe_dget (Nat.lt_of_le_of_lt (Nat.add_le_add_left (by decide : 1 ≤ 64) _) hr.units) (pe_fld (pv 0) rfl) (pv 1) (fun _ _ => rfl)) pe_non))), ?_⟩
    obtain ⟨dx, tx, fx, hx, ht, hf⟩ := tr.ex
    walk_at "rd"
    refine ⟨x, dx, _, rfl, hx, x, kd, od, sd, z, y, o, rfl, tr, as, fun H1 s1 => ⟨_, rfl, ?_⟩⟩
    have qq := q H1 s1
    rcases as with ⟨b, ns, rfl, ka, rfl⟩ | ⟨kn, rfl⟩
    · cases ev : valV z.kvs (kk ns) with
      | none =>
        simp only [hasV, gotV, ev] at qq ⊢
        exact ⟨_, rfl, iteF qq⟩
      | some v =>
        simp only [hasV, gotV, ev] at qq ⊢
        refine ⟨_, rfl, iteT ?_⟩
        unfold tDGet
        walk_at "rd"
        refine ⟨_, rfl, x, U, dx, _, _, rfl, s1 _ _ hx, TU.cl, TU.nK, lt_kept, ?_⟩
        have gg := (ka.up s1).get (s1 _ _ tr.hk)
        rw [ev] at gg
        walk_at "rd"
        exact ⟨kd, v, rfl, gg, qq⟩
    · exact ⟨_, rfl, iteF qq⟩
abbrev s_Truth_stamp_of : Stmt := inClass (top 30) 9
theorem sc_Truth_stamp_of : FnScope ["self", "key"] ["self", "key"] (defScope s_Truth_stamp_of) := ⟨rfl, rfl, rfl, by decide +kernel, rfl, by decide +kernel, by decide +kernel⟩
def sp_ust (K : PySem.W.Frag) (U C D : Addr) : Sp := fun vs H Q _ => ∃ x kd od sd z y o, vs = [.ref x, y] ∧ Tru U C D H x kd od sd z ∧ AskV K H y z.t.ks.length o ∧ ∀ H', Same H H' → Q (gotV z.sts o (.int 0)) H'
theorem ok_ust {f fK : Addr} {fd fdK : FuncData} (F : Fun K "stamp_of" "Truth.stamp_of" s_Truth_stamp_of f fd) (T : ClsT K mg C fI mc p g) (TU : ClsU K mg U fT)
    (F_is_key : Fun K "is_key" "is_key" s_is_key fK fdK) (B_is_key : Binds K fdK ["thing", "size"] []) (g_is_key : mg "is_key" = some (.ref fK)) (G_is_key : FnOk P w K mg base CX0 3 fK fdK ["thing", "size"] (sp_is_key K)) (z_len : mg "len" = none) :
    FnOk P w K mg base CX0 4 f fd ["self", "key"] (sp_ust K U C D) := by
  refine F.ok sc_Truth_stamp_of (fun vs H Q E h => ?_) (fun cdv A outer s H vs Q E hr h => ?_)
  · obtain ⟨x, kd, od, sd, z, y, o, rfl, _⟩ := h
    rfl
  · obtain ⟨x, kd, od, sd, z, y, o, rfl, tr, as, q⟩ := h
    refine ⟨_, (pss_one (ps_ret (pe_ifExp (pt_val (pe_call G_is_key (hr.mono (by decide)) rfl g_is_key F_is_key.kp B_is_key .nil pass0 (pa_cons (pv 1) (pa_cons (pe_callB call_len_seq (by rfl) z_len PySem.boot_len (pa_cons (pe_fld (pe_fld (pv 0) rfl) rfl) pa_nil)) pa_nil)))) (pe_dget2 (Nat.lt_of_le_of_lt (Nat.add_le_add_left (by decide : 1 ≤ 64) _) hr.units) (pe_fld (pv 0) rfl) (pv 1) pe_int ⟨rfl, rfl, rfl, rfl⟩) pe_int))), ?_⟩
    obtain ⟨dx, tx, fx, hx, ⟨dt, tc, tk, tf, tu, htx, hc, hk, _⟩, hf⟩ := tr.ex
    walk_at "rd"
    refine ⟨_, rfl, x, U, dx, _, _, rfl, hx, TU.cl, TU.nT, lt_table, tx, C, dt, _, _, rfl, htx, T.cl, T.nK, lk_key, ?_⟩
    walk_at "rd"
    refine ⟨tk, _, rfl, .inr (SqT.of hk), ?_⟩
    walk_at "rd"
    rw [List.length_map]
    have kz := tr.ok.kz
    rcases as with ⟨b, ns, rfl, ka, rfl⟩ | ⟨kn, rfl⟩
    · refine ⟨_, _, true, rfl, by omega, ka.keyed, fun H1 s1 => ⟨_, rfl, iteT ?_⟩⟩
      unfold tDGet2
      walk_at "rd"
      refine ⟨_, rfl, x, U, dx, _, _, rfl, s1 _ _ hx, TU.cl, TU.nS, lt_stamps, ?_⟩
      refine ⟨sd, rfl, .inr ⟨_, .inl (s1 _ _ tr.hs)⟩, ?_⟩
      walk_at "rd"
      exact ⟨_, (ka.up s1).get (s1 _ _ tr.hs), q H1 s1⟩
    · exact ⟨_, _, false, rfl, by omega, kn, fun H1 s1 => ⟨_, rfl, iteF (q H1 s1)⟩⟩
end
end Spk

set_option Elab.async false
set_option linter.all false
set_option maxRecDepth 100000
set_option maxHeartbeats 4000000
namespace Spk
open PySem L2
local macro_rules | `(tactic| walk_at "rd") => `(tactic| repeat (first
  | with_reducible refine i_seq ?_ | with_reducible refine i_asg ?_ | with_reducible refine i_ret ?_ | with_reducible refine i_ifS ?_ | with_reducible refine i_if ?_
  | with_reducible refine i_for ?_ | with_reducible refine i_iL ?_ | with_reducible refine i_iT ?_ | with_reducible refine i_ckw ?_ | with_reducible refine i_cm ?_ | with_reducible refine And.intro (rfl : V.ref _ = V.ref _) ?_ | with_reducible refine i_rng1 ?_ | with_reducible refine i_bm ?_ | with_reducible refine i_bm0 ?_
  | with_reducible refine i_drop ?_ | with_reducible refine i_next ?_
  | with_reducible refine i_var rfl ?_ | with_reducible refine i_c ?_ | with_reducible refine i_op ?_ | with_reducible refine i_un ?_ | with_reducible refine i_name ?_
  | with_reducible refine i_rI0 ?_ | with_reducible refine i_rU ?_ | with_reducible refine i_rEq rfl ?_ | with_reducible refine i_rNe rfl ?_
  | with_reducible refine i_test ?_ | with_reducible refine i_tB ?_ | with_reducible refine i_and ?_ | with_reducible refine i_or ?_ | with_reducible refine i_not ?_
  | with_reducible refine i_andV ?_ | with_reducible refine i_orV ?_ | with_reducible refine i_notV ?_
  | with_reducible refine i_cons ?_ | with_reducible refine i_nil ?_ | with_reducible refine i_cb ?_ | with_reducible refine i_call ?_ | with_reducible refine i_bl ?_
  | with_reducible refine i_tup ?_ | with_reducible refine i_lst ?_ | with_reducible refine i_par ?_ | with_reducible refine i_gcons ?_ | with_reducible refine i_gnil ?_
  | with_reducible refine And.intro (rfl : V.non = V.non) ?_ | with_reducible refine i_ixT (by assumption) rfl ?_ | with_reducible refine i_ixL (by assumption) rfl ?_ | with_reducible refine i_gtup (by assumption) rfl ?_
  | with_reducible refine i_gsub ?_
  | with_reducible refine Or.inl (Exists.intro _ (And.intro (rfl : [V.int _] = [V.int _]) ?_)) | with_reducible refine Exists.intro _ (And.intro (rfl : [V.int _] = [V.int _]) ?_)
  | with_reducible refine Or.inr (Exists.intro _ (And.intro (rfl : [V.bl _] = [V.bl _]) ?_))
  | with_reducible refine Exists.intro _ (Exists.intro _ (And.intro (rfl : [V.int _, V.int _] = [V.int _, V.int _]) ?_))
  | with_reducible refine Exists.intro _ (Exists.intro _ (And.intro (rfl : [V.ref _] = [V.ref _]) (And.intro (Or.inl (SqL.of (by assumption))) ?_)))
  | with_reducible refine i_rI (show (0 : Int) < _ by assumption) ?_ | with_reducible refine i_rI (show (0 : Int) < _ by decide) ?_
  | with_reducible refine i_rI (pow_ok (Nat.le_of_ble_eq_true rfl) (Nat.le_of_ble_eq_true rfl)) ?_
  | with_reducible refine i_rI (cmulL rfl) ?_))
/-! ### why a change cannot be made, -/
theorem op_notTr {X : Cx} : OpR X (compareOp .IsNot) (fun x y H Q => ∃ (a : Option Bool) (b : Bool), x = Fi.tv a ∧ y = .bl b ∧ Q (.bl (!decide (a = some b))) H) := by
  intro pins s σ H x y v u Q I rx ry h
  obtain ⟨a, b, rfl, rfl, q⟩ := h
  cases a with
  | some c =>
    refine op_notBl pins s σ H (.bl c) (.bl b) v u Q I rx ry ⟨c, b, rfl, rfl, ?_⟩
    have e : decide (c = b) = decide (some c = some b) := by cases c <;> cases b <;> rfl
    rw [e]
    exact q
  | none =>
    cases (show v = Value.none from rx)
    cases (show u = Value.bool b from ry)
    exact wpAny_isNot_other rfl (fun z => nomatch z) ⟨.bl true, H, I, rfl, q⟩
theorem op_neDK {K : PySem.W.Frag} {X : Cx} (h : X.K = K) (hu : X.A.units + 64 < cLine) : OpR X (compareOp .NotEq) (rNeD K) := by
  subst h
  exact op_neD hu
/-- the values of a key by columns -/
def rhoK (ks : List Str) (ns : List Int) (c : Str) : Option Int := (ks.zip ns).lookup c
theorem merge_val : ∀ (more : List (Key × V)) (acc : List (Key × V)) (k : Key), (more.map (·.1)).Nodup → valV (mergeK acc more) k = (valV more k).or (valV acc k)
  | [], acc, k, _ => by
    show valV acc k = _
    rw [valV_nil, Option.none_or]
  | p :: more, acc, k, nd => by
    rw [List.map_cons, List.nodup_cons] at nd
    show valV (mergeK (putK acc p.1 p.2) more) k = _
    rw [merge_val more _ k nd.2, valV_put]
    by_cases e : k = p.1
    · subst e
      rw [if_pos rfl, valV_pos rfl, Option.some_or]
      have n : valV more p.1 = none := by
        cases ev : valV more p.1 with
        | none => rfl
        | some v => exact absurd (List.mem_map.mpr ⟨_, valV_mem' ev, rfl⟩) nd.1
      rw [n, Option.none_or]
    · rw [if_neg e, valV_neg (Ne.symm e)]
where
  valV_mem' {kvs : List (Key × V)} {k : Key} {v : V} (h : valV kvs k = some v) : (k, v) ∈ kvs := by
    unfold valV at h
    obtain ⟨q, hq, e⟩ := Option.map_eq_some_iff.mp h
    have a := List.find?_some hq
    have b := List.mem_of_find?_eq_some hq
    have ek : q.1 = k := of_decide_eq_true a
    obtain ⟨q1, q2⟩ := q
    dsimp only at e ek
    subst e ek
    exact b
theorem zip_val : ∀ {ks : List Str} {ns : List Int} {c : Str}, c ∈ ks → ks.length = ns.length → valV ((ks.map (Sum.inr : Str → Key)).zip (ns.map V.int)) (Sum.inr c) = some (ov (rhoK ks ns c))
  | [], _, c, h, _ => absurd h List.not_mem_nil
  | k :: ks, [], _, _, e => by simp at e
  | k :: ks, n :: ns, c, h, e => by
    show valV ((Sum.inr k, V.int n) :: (ks.map Sum.inr).zip (ns.map V.int)) (Sum.inr c) = _
    by_cases z : k = c
    · subst z
      rw [valV_pos rfl]
      unfold rhoK
      rw [List.zip_cons_cons, List.lookup_cons_self]
    · rw [valV_neg (fun q => z (Sum.inr.inj q)), zip_val ((List.mem_cons.mp h).resolve_left (Ne.symm z)) (by simpa using e)]
      unfold rhoK
      have b : (c == k) = false := by simpa using Ne.symm z
      rw [List.zip_cons_cons, List.lookup_cons, b]
theorem vals_key {H : Hp} {m : Addr} {ks : List Str} {ns : List Int} (hm : H m = some (.dK (mergeK [] ((ks.map (Sum.inr : Str → Key)).zip (ns.map V.int))))) (nd : ks.Nodup) (e : ks.length = ns.length) : Fi.ValsAt H m (rhoK ks ns) ks := by
  refine ⟨_, hm, fun c hc => ?_⟩
  have n2 : (((ks.map (Sum.inr : Str → Key)).zip (ns.map V.int)).map (·.1)).Nodup := by
    rw [List.map_fst_zip (by rw [List.length_map, List.length_map]; omega)]
    exact List.pairwise_map.mpr (nd.imp fun h e => h (Sum.inr.inj e))
  rw [merge_val _ _ _ n2, zip_val hc e]
  rfl
/-- whether a key passes the region -/
def inR (z : Tw) (ns : List Int) : Bool := decide (z.r.sem (rhoK z.t.ks ns) = some true)
/-! ### rows at their addresses, and what no other row may have -/
/-- what stands at a row's address -/
def ctn (H : Hp) : V → List V
  | .ref r => (match H r with
    | some (.tup us) => us
    | _ => [])
  | _ => []
theorem ctn_at {H : Hp} {r : Addr} {us : List V} (h : H r = some (.tup us)) : ctn H (.ref r) = us := by
  show (match H r with
    | some (.tup us) => us
    | _ => []) = us
  rw [h]
/-- a row of values, or none -/
def RowG (H : Hp) (t : Tb) (v : V) : Prop := v = .non ∨ ∃ r us, v = .ref r ∧ H r = some (.tup us) ∧ us.length = t.cs.length ∧ ∀ u, u ∈ us → Plain u
theorem RowG.tup {H H' : Hp} {t : Tb} {v : V} (e : ∀ a us, H a = some (.tup us) → H' a = some (.tup us)) (h : RowG H t v) : RowG H' t v := h.elim .inl fun ⟨r, us, a, b, c⟩ => .inr ⟨r, us, a, e _ _ b, c⟩
theorem RowG.up {H H' : Hp} {t : Tb} {v : V} (e : Same H H') (h : RowG H t v) : RowG H' t v := h.tup fun _ _ => e _ _
theorem RowG.ctn {H H' : Hp} {t : Tb} {v : V} (e : ∀ a us, H a = some (.tup us) → H' a = some (.tup us)) (h : RowG H t v) : ctn H' v = ctn H v := by
  rcases h with rfl | ⟨r, us, rfl, a, _⟩
  · rfl
  · rw [ctn_at a, ctn_at (e _ _ a)]
/-- values of a row in some columns, those that are none left out -/
def plsL (cs : List Str) (us : List V) (ws : List Str) : List (Str × Int) := ws.filterMap fun c => match us.getD (cs.idxOf c) .non with
  | .int n => some (c, n)
  | _ => none
abbrev places (t : Tb) (us : List V) : List (Str × Int) := plsL t.cs us t.us
def kp (p : Str × Int) : List Key := [Sum.inr p.1, Sum.inl p.2]
theorem kp_v (p : Str × Int) : (kp p).map kV = [.str p.1, .int p.2] := rfl
theorem kp_inj {p q : Str × Int} (h : kp p = kp q) : p = q := by
  obtain ⟨a, b⟩ := p
  obtain ⟨c, d⟩ := q
  unfold kp at h
  injection h with h1 h2
  injection h2 with h2 _
  exact Prod.ext (Sum.inr.inj h1) (Sum.inl.inj h2)
abbrev PlsAt (H : Hp) (qs : List Addr) (ps : List (Str × Int)) : Prop := Paired (fun q p => H q = some (.tup [.str p.1, .int p.2])) qs ps
theorem pls_snoc (cs : List Str) (us : List V) (ws : List Str) (c : Str) : plsL cs us (ws ++ [c]) = plsL cs us ws ++ (match us.getD (cs.idxOf c) .non with
  | .int n => [(c, n)]
  | _ => []) := by
  unfold plsL
  rw [List.filterMap_append]
  congr 1
  rw [List.filterMap_cons]
  generalize us.getD (cs.idxOf c) .non = v
  cases v <;> rfl
theorem pls_mem {cs : List Str} {us : List V} {ws : List Str} {p : Str × Int} : p ∈ plsL cs us ws ↔ p.1 ∈ ws ∧ us.getD (cs.idxOf p.1) .non = .int p.2 := by
  unfold plsL
  rw [List.mem_filterMap]
  constructor
  · rintro ⟨c, hc, e⟩
    cases ev : us.getD (cs.idxOf c) V.non with
    | int n =>
      rw [ev] at e
      cases e
      exact ⟨hc, ev⟩
    | _ =>
      rw [ev] at e
      cases e
  · rintro ⟨hc, e⟩
    refine ⟨p.1, hc, ?_⟩
    rw [e]
theorem pls_nil (cs : List Str) (ws : List Str) : plsL cs [] ws = [] := by
  unfold plsL
  rw [List.filterMap_eq_nil_iff]
  intro c _
  rfl
theorem pls_len (cs : List Str) (us : List V) (ws : List Str) : (plsL cs us ws).length ≤ ws.length := List.length_filterMap_le _ _
theorem pls_nd {cs : List Str} {us : List V} : ∀ {ws : List Str}, ws.Nodup → (plsL cs us ws).Nodup
  | [], _ => List.nodup_nil
  | c :: ws, h => by
    rw [List.nodup_cons] at h
    have ih := pls_nd (cs := cs) (us := us) h.2
    unfold plsL at ih ⊢
    rw [List.filterMap_cons]
    split
    · exact ih
    · rename_i p e
      rw [List.nodup_cons]
      refine ⟨fun m => ?_, ih⟩
      have m2 := (pls_mem (cs := cs) (us := us) (ws := ws)).mp m
      have e1 : p.1 = c := by
        cases ev : us.getD (cs.idxOf c) V.non with
        | int n =>
          rw [ev] at e
          cases e
          rfl
        | _ =>
          rw [ev] at e
          cases e
      rw [e1] at m2
      exact h.1 m2.1
/-- tuples of values side by side -/
theorem eqv_plain : ∀ {us vs : List V}, (∀ u, u ∈ us → Plain u) → (∀ u, u ∈ vs → Plain u) → PyData.eqvAll (us.map dV) (vs.map dV) = decide (us = vs)
  | [], [], _, _ => by simp [PyData.eqvAll]
  | [], v :: vs, _, _ => by simp [PyData.eqvAll]
  | u :: us, [], _, _ => by simp [PyData.eqvAll]
  | u :: us, v :: vs, h1, h2 => by
    have ih := eqv_plain (us := us) (vs := vs) (fun w hw => h1 w (List.mem_cons_of_mem _ hw)) fun w hw => h2 w (List.mem_cons_of_mem _ hw)
    rcases h1 u List.mem_cons_self with ⟨m, rfl⟩ | rfl
    · rcases h2 v List.mem_cons_self with ⟨n, rfl⟩ | rfl
      · by_cases e : m = n
        · simp [PyData.eqvAll, PyData.eqv, dV, ih, e]
        · simp [PyData.eqvAll, PyData.eqv, dV, ih, e]
      · simp [PyData.eqvAll, PyData.eqv, dV, ih]
    · rcases h2 v List.mem_cons_self with ⟨n, rfl⟩ | rfl
      · simp [PyData.eqvAll, PyData.eqv, dV, ih]
      · simp [PyData.eqvAll, PyData.eqv, dV, ih]
theorem ne_plain {K : PySem.W.Frag} {H : Hp} {a b : Addr} {us vs : List V} {Q : VK} (ha : H a = some (.tup us)) (hb : H b = some (.tup vs)) (p1 : ∀ v, v ∈ us → Plain v) (p2 : ∀ v, v ∈ vs → Plain v) (q : Q (.bl (decide (us ≠ vs))) H) : rNeD K (.ref a) (.ref b) H Q := by
  refine ⟨.tuple (us.map dV), .tuple (vs.map dV), .tup (SqT.of ha) (dps_plain p1), .tup (SqT.of hb) (dps_plain p2), shaped_plain us, shaped_plain vs, ?_⟩
  have e : PyData.eqv (.tuple (us.map dV)) (.tuple (vs.map dV)) = decide (us = vs) := by
    rw [← eqv_plain p1 p2]
    simp only [PyData.eqv]
  rw [e, show (!decide (us = vs)) = decide (us ≠ vs) from by simp]
  exact q
theorem plain_ints (ns : List Int) : ∀ v, v ∈ ns.map V.int → Plain v := fun v hv => by
  obtain ⟨n, _, rfl⟩ := List.mem_map.mp hv
  exact .inl ⟨n, rfl⟩
/-- the owners are keys -/
def OsOk (H : Hp) (z : Tw) : Prop := ∀ k v, valV z.os k = some v → ∃ b, ∃ ms : List Int, v = .ref b ∧ H b = some (.tup (ms.map V.int))
theorem OsOk.tup {H H' : Hp} {z : Tw} (e : ∀ a us, H a = some (.tup us) → H' a = some (.tup us)) (h : OsOk H z) : OsOk H' z := fun k v a => by
  obtain ⟨b, ms, x, y⟩ := h k v a
  exact ⟨b, ms, x, e _ _ y⟩
theorem OsOk.up {H H' : Hp} {z : Tw} (e : Same H H') (h : OsOk H z) : OsOk H' z := h.tup fun _ _ => e _ _
/-- the stamps are positive numbers -/
def StOk (z : Tw) : Prop := ∀ k v, valV z.sts k = some v → ∃ n : Nat, v = .int (n : Int) ∧ 0 < n
/-- whether another key owns a value -/
def ownB (H : Hp) (z : Tw) (ns : List Int) (p : Str × Int) : Bool := match valV z.os (kp p) with
  | some v => decide (ctn H v ≠ ns.map V.int)
  | none => false
/-- whether another key owns a value of the row -/
def tkB (H : Hp) (z : Tw) (ns : List Int) (us : List V) : Bool := (places z.t us).any (ownB H z ns)
theorem tkB_tup {H H' : Hp} {z : Tw} {ns : List Int} {us : List V} (e : ∀ a us, H a = some (.tup us) → H' a = some (.tup us)) (h : OsOk H z) : tkB H' z ns us = tkB H z ns us := by
  unfold tkB
  congr 1
  funext p
  unfold ownB
  cases ev : valV z.os (kp p) with
  | none => rfl
  | some v =>
    obtain ⟨b, ms, rfl, hb⟩ := h _ _ ev
    dsimp only
    rw [ctn_at hb, ctn_at (e _ _ hb)]
/-- the first reason for which a change of a key inside the region cannot be made -/
def dueI (H : Hp) (z : Tw) (ns : List Int) (us : List V) : Option Str :=
  if (valV z.kvs (kk ns)).isSome = true then some "present" else if z.t.r = false ∧ (valV z.sts (kk ns)).isSome = true then some "again" else if tkB H z ns us = true then some "unique" else none
def dueU (H : Hp) (z : Tw) (ns : List Int) (us : List V) (o : V) : Option Str :=
  if picked z.t.cs us z.t.fs ≠ picked z.t.cs (ctn H o) z.t.fs then some "fixed" else if tkB H z ns us = true then some "unique" else none
/-- the first reason for which a change cannot be made -/
def dueW (H : Hp) (z : Tw) (w : Str) (ns : List Int) (y : V) : Option Str :=
  if inR z ns = false then some "region" else if w = "insert" then dueI H z ns (ctn H y) else match valV z.kvs (kk ns) with
    | none => some "missing"
    | some o => if w = "delete" then none else dueU H z ns (ctn H y) o
def orS : Option Str → V
  | none => .non
  | some w => .str w
theorem getD_plain {us : List V} (h : ∀ u, u ∈ us → Plain u) (i : Nat) : Plain (us.getD i .non) := by
  rw [List.getD_eq_getElem?_getD]
  cases e : us[i]? with
  | none => exact .inr rfl
  | some v => exact h v (List.mem_of_getElem? e)
theorem pls_app {H : Hp} : ∀ {as bs : List Addr} {xs ys : List (Str × Int)}, PlsAt H as xs → PlsAt H bs ys → PlsAt H (as ++ bs) (xs ++ ys)
  | _, _, _, _, .nil, t => t
  | _, _, _, _, .cons r s, t => .cons r (pls_app s t)
section
variable {P : Program} {w : World} {K : PySem.W.Frag} {mg : Str → Option Value} {base : Heap} {C fI p g U D fT : Addr} {mc : Value} {hI hK hC mI mU mD mC' mW mO mS fL fC : Addr}
abbrev s_unique_places : Stmt := top 34
theorem sc_unique_places : FnScope ["table", "row", "values", "column", "value"] ["table", "row"] (defScope s_unique_places) := ⟨rfl, rfl, rfl, by decide +kernel, rfl, by decide +kernel, by decide +kernel⟩
def sp_places (C : Addr) : Sp := fun vs H Q _ => ∃ tx v, ∃ t : Tb, vs = [.ref tx, v] ∧ Tab C H tx t ∧ TbOk t ∧ RowG H t v ∧ ∀ l qs H', Same H H' → H' l = some (.lst (qs.map V.ref)) → PlsAt H' qs (places t (ctn H v)) → Q (.ref l) H'
theorem ok_places {f : Addr} {fd : FuncData} (F : Fun K "unique_places" "unique_places" s_unique_places f fd) (T : ClsT K mg C fI mc p g) (CN : ClsN K C hI hK hC) (R_cut : FnR P w K mg base CX0 1 hC (mC K C)) (z_zip : mg "zip" = none) :
    FnOk P w K mg base CX0 2 f fd ["table", "row"] (sp_places C) := by
  refine F.ok sc_unique_places (fun vs H Q E h => ?_) (fun cdv A outer s H vs Q E hr h => ?_)
  · obtain ⟨tx, v, t, rfl, _⟩ := h
    rfl
  · obtain ⟨tx, v, ⟨cs, ks, fs, us0, r0⟩, rfl, tb, ok, rv, q⟩ := h
    refine ⟨_, (pss_cons (ps_if (pt_cmpR op_isN (pv 1) pe_non (nomark _))
 (pss_one (ps_ret (pe_lst pa_nil)))
 pss_nil)
 (pss_cons (ps_set (i := 2) sc_unique_places.nd rfl (Or.inl rfl) (pe_methR (pv 0) T.cl CN.cut R_cut (hr.mono (by decide)) pass0 (pa_cons (pv 1) (pa_cons (pe_fld (pv 0) rfl) pa_nil))))
 (pss_one (ps_ret (pe_lc (own := [("column", 3), ("value", 4)]) (g := gTup K 2 (gCons (gName 3) (gCons (gName 4) gNil))) rfl sc_unique_places.nd (RZ.pi_zipA (by rfl) z_zip (pa_cons (pe_fld (pv 0) rfl) (pa_cons (pv 2) pa_nil))) (blkOk_by (own := [("column", 3), ("value", 4)]) (N := ["table", "row", "values", "column", "value"]) (sc := defScope s_unique_places) (by decide +kernel)) (fun _ _ _ _ _ => pg_tup (by rfl) (pgs_cons (pg_name (i := 3) sc_unique_places.nd rfl (Or.inl rfl)) (pgs_cons (pg_name (i := 4) sc_unique_places.nd rfl (Or.inl rfl)) pgs_nil))) (fun _ _ _ _ _ => pts_one (pt_cmpR op_notN (pv 4) pe_non (nomark _))) (fun _ _ _ _ _ => (pe_tup (pa_cons (pv 3) (pa_cons (pv 4) pa_nil))))))))), ?_⟩
    walk_at "rd"
    rcases rv with rfl | ⟨r, us, rfl, hr', hl, pl⟩
    · refine iteT ?_
      walk_at "rd"
      refine ⟨Nat.zero_le _, fun l hl => ?_⟩
      obtain ⟨H1, e1, s1, h1⟩ := new_heap (o := .lst []) hl
      rw [e1]
      exact q l [] H1 s1 h1 (by rw [show ctn H V.non = [] from rfl, show places ⟨cs, ks, fs, us0, r0⟩ [] = [] from pls_nil cs us0]; exact .nil)
    · refine iteF ?_
      rw [ctn_at hr'] at q
      obtain ⟨dt, tc, tk, tf, tu, htx, hc, hk, hf0, hu0⟩ := id tb
      have uz := ok.uz
      have usub := ok.usub
      have un := ok.un
      dsimp only at htx hc hk hf0 hu0 hl uz usub un q
      walk_at "rd"
      refine i_methR ?_
      walk_at "rd"
      refine ⟨tx, dt, _, rfl, htx, lk_meth (.inl rfl), ?_⟩
      walk_at "rd"
      refine ⟨_, rfl, tx, C, dt, _, _, rfl, htx, T.cl, T.nU, lk_unique, ?_⟩
      walk_at "rd"
      refine ⟨tx, r, tu, _, us, us0, rfl, tb, hr', hl, SqT.of hu0, by omega, usub, fun q1 H1 s1 h1 => ?_⟩
      dsimp only at h1
      walk_at "rd"
      unfold tLc
      refine i_zipA ?_
      walk_at "rd"
      refine ⟨_, rfl, tx, C, dt, _, _, rfl, s1 _ _ htx, T.cl, T.nU, lk_unique, ?_⟩
      walk_at "rd"
      refine ⟨tu, q1, _, _, rfl, .inr ⟨SqT.of (s1 _ _ hu0), SqT.of h1, fun Dl hD => ?_⟩⟩
      obtain ⟨H2, e2, s2, h2⟩ := new_heap (o := .lst []) hD
      refine lc_it (walk_zipT (K := K) (a := tu) (b := q1) (xs := us0.map V.str) (ys := picked cs us us0) (n := us0.length) (List.length_map ..) (List.length_map ..)) (fun i H' => ∃ qs, Same H1 H' ∧ H' Dl = some (.lst (qs.map V.ref)) ∧ PlsAt H' qs (plsL cs us (us0.take i))) ⟨[], by rw [e2]; exact s2, by rw [e2]; exact h2, .nil⟩ ?_ ?_ ?_
      · rintro i H' _ ⟨qs, s3, _⟩
        exact ⟨SqT.of (s3 _ _ (s1 _ _ hu0)), SqT.of (s3 _ _ h1)⟩
      · rintro i y H3 _ hi ⟨qs, s3, h3, p3⟩ ⟨t2, c', v', rfl, ht2, rfl, ec, ev⟩
        obtain ⟨c, ec2, rfl⟩ := str_at ec
        have ev2 : v' = us.getD (cs.idxOf c) .non := by
          have ev3 : (picked cs us us0)[i]? = some v' := ev
          unfold picked at ev3
          rw [List.getElem?_map, ec2] at ev3
          exact (Option.some.inj ev3).symm
        obtain ⟨H4, e4, s4, h4⟩ := new_heap (o := .tup [.str c, v']) ht2
        rw [e4]
        have s14 : Same H1 H4 := fun b o z => s4 _ _ (s3 _ _ z)
        have h34 := s4 _ _ h3
        have p34 : PlsAt H4 qs (plsL cs us (us0.take i)) := Paired.mapP p3 fun _ _ z => s4 _ _ z
        have snoc := pls_snoc cs us (us0.take i) c
        rw [← ev2] at snoc
        refine i_gtup h4 rfl (i_gcons ?_)
        walk_at "rd"
        refine ⟨rfl, ?_⟩
        walk_at "rd"
        have pv : Plain v' := by
          rw [ev2]
          exact getD_plain pl _
        rcases pv with ⟨n, rfl⟩ | rfl
        · rw [decide_eq_false (fun e => nomatch e)]
          refine iteT ?_
          walk_at "rd"
          refine ⟨size_of (Nat.le_of_ble_eq_true rfl), fun t3 ht3 => ?_⟩
          obtain ⟨H5, e5, s5, h5⟩ := new_heap (o := .tup [.str c, .int n]) ht3
          rw [e5]
          have hl5 := s5 _ _ h34
          have ql : qs.length ≤ 4 := by
            rw [Paired.length p34]
            have := pls_len cs us (us0.take i)
            have := List.length_take_le i us0
            omega
          refine ⟨_, hl5, size_lt (by rw [List.length_map]; omega), qs ++ [t3], Same.mut (fun b o z => s5 _ _ (s14 _ _ z)) hD, by rw [upd_same, List.map_append]; rfl, ?_⟩
          rw [take_snoc ec2, snoc]
          have dn : ∀ {q : Addr} {p : Str × Int}, H5 q = some (.tup [.str p.1, .int p.2]) → (upd H5 Dl (.lst (qs.map V.ref ++ [V.ref t3]))) q = some (.tup [.str p.1, .int p.2]) := fun {q p} z => by
            rw [upd_ne (fun e => by rw [e, hl5] at z; cases z)]
            exact z
          exact pls_app (Paired.mapP p34 fun _ _ z => dn (s5 _ _ z)) (.cons (dn (p := (c, n)) h5) .nil)
        · rw [decide_eq_true rfl]
          refine iteF ?_
          show ∃ qs, Same H1 H4 ∧ H4 Dl = some (.lst (qs.map V.ref)) ∧ PlsAt H4 qs (plsL cs us (us0.take (i + 1)))
          refine ⟨qs, s14, h34, ?_⟩
          rw [take_snoc ec2, snoc, List.append_nil]
          exact p34
      · rintro H3 ⟨qs, s3, h3, p3⟩
        rw [List.take_length] at p3
        walk_at "rd"
        exact q Dl qs H3 (fun b o z => s3 _ _ (s1 _ _ z)) h3 p3
abbrev s_is_taken : Stmt := top 38
theorem sc_is_taken : FnScope ["truth", "key", "row", "place"] ["truth", "key", "row"] (defScope s_is_taken) := ⟨rfl, rfl, rfl, by decide +kernel, rfl, by decide +kernel, by decide +kernel⟩
def sp_taken (U C D : Addr) : Sp := fun vs H Q _ => ∃ x kd od sd z b v, ∃ ns : List Int, vs = [.ref x, .ref b, v] ∧ Tru U C D H x kd od sd z ∧ H b = some (.tup (ns.map V.int)) ∧ OsOk H z ∧ RowG H z.t v ∧ ∀ H', Same H H' → Q (.bl (tkB H z ns (ctn H v))) H'
theorem ok_taken {f fP : Addr} {fd fdP : FuncData} (F : Fun K "is_taken" "is_taken" s_is_taken f fd) (TU : ClsU K mg U fT)
    (F_unique_places : Fun K "unique_places" "unique_places" s_unique_places fP fdP) (B_unique_places : Binds K fdP ["table", "row"] []) (g_unique_places : mg "unique_places" = some (.ref fP)) (G_unique_places : FnOk P w K mg base CX0 2 fP fdP ["table", "row"] (sp_places C)) (z_any : mg "any" = none) :
    FnOk P w K mg base CX0 3 f fd ["truth", "key", "row"] (sp_taken U C D) := by
  refine F.ok sc_is_taken (fun vs H Q E h => ?_) (fun cdv A outer s H vs Q E hr h => ?_)
  · obtain ⟨x, kd, od, sd, z, b, v, ns, rfl, _⟩ := h
    rfl
  · obtain ⟨x, kd, od, sd, z, b, v, ns, rfl, tr, hb, oo, rv, q⟩ := h
    refine ⟨_, (pss_one (ps_ret (pe_callB (cr_any rfl) (by rfl) z_any (by decide +kernel) (pa_cons (pe_lc (own := [("place", 3)]) (g := gName 3) (tt := tYes) rfl sc_is_taken.nd (pi_list (pe_call G_unique_places (hr.mono (by decide)) rfl g_unique_places F_unique_places.kp B_unique_places .nil pass0 (pa_cons (pe_fld (pv 0) rfl) (pa_cons (pv 2) pa_nil)))) (blkOk_by (own := [("place", 3)]) (N := ["truth", "key", "row", "place"]) (sc := defScope s_is_taken) (by decide +kernel)) (fun _ _ _ _ _ => pg_name (i := 3) sc_is_taken.nd rfl (Or.inl rfl)) (fun _ _ _ _ _ => pts_nil) (fun _ _ _ _ _ => (pe_cmpR (op_neDK (K := K) rfl hr.units) (pe_dget2 (Nat.lt_of_le_of_lt (Nat.add_le_add_left (by decide : 1 ≤ 64) _) hr.units) (pe_fldK (K := K) rfl (pv 0) rfl) (pv 3) (pv 1) ⟨rfl, rfl, rfl, rfl⟩) (pv 1) (nomark _)))) pa_nil)))), ?_⟩
    obtain ⟨dx, tx, fx, hx, ht, hf⟩ := tr.ex
    walk_at "rd"
    unfold tLc
    walk_at "rd"
    refine ⟨_, rfl, x, U, dx, _, _, rfl, hx, TU.cl, TU.nT, lt_table, ?_⟩
    walk_at "rd"
    refine ⟨tx, v, z.t, rfl, ht, tr.ok, rv, fun l qs H1 s1 h1 p1 => ?_⟩
    refine ⟨l, rfl, ⟨_, SqL.of h1⟩, fun Dl hD => ?_⟩
    obtain ⟨H2, e2, s2, h2⟩ := new_heap (o := .lst []) hD
    refine lc_list (K := K) (a := l) (xs := qs.map V.ref) (fun i H' => Same H1 H' ∧ H' Dl = some (.lst ((((places z.t (ctn H v)).map (ownB H z ns)).take i).map V.bl))) ⟨by rw [e2]; exact s2, by rw [e2]; exact h2⟩ ?_ ?_ ?_
    · rintro i H' _ ⟨s3, _⟩
      exact SqL.of (s3 _ _ h1)
    · rintro i y H3 hy ⟨s3, h3⟩
      rw [List.getElem?_map] at hy
      obtain ⟨q0, hq0, rfl⟩ := Option.map_eq_some_iff.mp hy
      obtain ⟨p, ep, hqp⟩ := pair_at p1 hq0
      have s03 : Same H H3 := fun b o z => s3 _ _ (s1 _ _ z)
      walk_at "rd"
      refine ⟨rfl, i_yes (iteT ?_)⟩
      walk_at "rd"
      unfold tDGet2
      walk_at "rd"
      refine ⟨_, rfl, x, U, dx, _, _, rfl, s03 _ _ hx, TU.cl, TU.nO, lt_owners, ?_⟩
      refine ⟨od, rfl, .inr ⟨_, .inl (s03 _ _ tr.ho)⟩, ?_⟩
      walk_at "rd"
      have hq3 := s3 _ _ hqp
      refine ⟨_, DGet.t (k := kp p) (s03 _ _ tr.ho) (by rw [kp_v]; exact hq3), ?_⟩
      walk_at "rd"
      have ei : ((places z.t (ctn H v)).map (ownB H z ns))[i]? = some (ownB H z ns p) := by
        rw [List.getElem?_map, ep]
        rfl
      have pz : (places z.t (ctn H v)).length ≤ 4 := Nat.le_trans (pls_len _ _ _) tr.ok.uz
      have fin : ∃ acc, H3 Dl = some (.lst acc) ∧ acc.length < sizeLine ∧ Same H1 (upd H3 Dl (.lst (acc ++ [V.bl (ownB H z ns p)]))) ∧ upd H3 Dl (.lst (acc ++ [V.bl (ownB H z ns p)])) Dl = some (.lst ((((places z.t (ctn H v)).map (ownB H z ns)).take (i + 1)).map V.bl)) := by
        refine ⟨_, h3, size_lt ?_, Same.mut s3 hD, ?_⟩
        · rw [List.length_map, List.length_take, List.length_map]
          omega
        · rw [upd_same, take_snoc ei, List.map_append]
          rfl
      cases ev : valV z.os (kp p) with
      | none =>
        have eo : ownB H z ns p = false := by
          unfold ownB
          rw [ev]
        rw [eo] at fin
        rw [Option.getD_none]
        refine ne_plain (s03 _ _ hb) (s03 _ _ hb) (plain_ints ns) (plain_ints ns) ?_
        rw [show decide (ns.map V.int ≠ ns.map V.int) = false from by simp]
        exact fin
      | some o =>
        obtain ⟨b', ms, rfl, hb'⟩ := oo _ _ ev
        have eo : ownB H z ns p = decide (ms.map V.int ≠ ns.map V.int) := by
          unfold ownB
          rw [ev]
          dsimp only
          rw [ctn_at hb']
        rw [eo] at fin
        rw [Option.getD_some]
        exact ne_plain (s03 _ _ hb') (s03 _ _ hb) (plain_ints ms) (plain_ints ns) fin
    · rintro H3 ⟨s3, h3⟩
      rw [List.length_map, Paired.length p1] at h3
      walk_at "rd"
      refine ⟨Dl, _, rfl, SqL.of h3, ?_⟩
      have e : ((((places z.t (ctn H v)).map (ownB H z ns)).take (places z.t (ctn H v)).length).any id) = tkB H z ns (ctn H v) := by
        rw [List.take_of_length_le (by rw [List.length_map]; exact Nat.le_refl _), List.any_map]
        rfl
      have := q H3 fun b o z => s3 _ _ (s1 _ _ z)
      rw [← e] at this
      exact this
abbrev s_why_not_inserted : Stmt := top 36
theorem sc_why_not_inserted : FnScope ["truth", "key", "row"] ["truth", "key", "row"] (defScope s_why_not_inserted) := ⟨rfl, rfl, rfl, by decide +kernel, rfl, by decide +kernel, by decide +kernel⟩
def sp_wni (U C D : Addr) : Sp := fun vs H Q _ => ∃ x kd od sd z b ns v, vs = [.ref x, .ref b, v] ∧ Tru U C D H x kd od sd z ∧ KeyAt H b ns z.t.ks.length ∧ OsOk H z ∧ StOk z ∧ RowG H z.t v ∧ ∀ H', Same H H' → Q (orS (dueI H z ns (ctn H v))) H'
theorem ok_wni {f fK : Addr} {fd fdK : FuncData} (F : Fun K "why_not_inserted" "why_not_inserted" s_why_not_inserted f fd) (T : ClsT K mg C fI mc p g) (TU : ClsU K mg U fT) (UN : ClsUN K U mI mU mD mC' mW mO mS fL fC) (RU_contains : FnR P w K mg base CX0 4 fC (mCon K U C D))
    (RU_stamp_of : FnR P w K mg base CX0 4 mS (fun vs H Q E => sp_ust K U C D (vs ++ []) H Q E))
    (F_is_taken : Fun K "is_taken" "is_taken" s_is_taken fK fdK) (B_is_taken : Binds K fdK ["truth", "key", "row"] []) (g_is_taken : mg "is_taken" = some (.ref fK)) (G_is_taken : FnOk P w K mg base CX0 3 fK fdK ["truth", "key", "row"] (sp_taken U C D)) :
    FnOk P w K mg base CX0 5 f fd ["truth", "key", "row"] (sp_wni U C D) := by
  refine F.ok sc_why_not_inserted (fun vs H Q E h => ?_) (fun cdv A outer s H vs Q E hr h => ?_)
  · obtain ⟨x, kd, od, sd, z, b, ns, v, rfl, _⟩ := h
    rfl
  · obtain ⟨x, kd, od, sd, z, b, ns, v, rfl, tr, ka, oo, so, rv, q⟩ := h
    refine ⟨_, (pss_cons (ps_if (pt_cmpR (op_inO RU_contains (hr.mono (by decide)) UN.inF UN.inI) (pv 1) (pv 0) (by rfl))
 (pss_one (ps_ret pe_str))
 pss_nil)
 (pss_cons (ps_if (PW.pt (pw_and (pt_not (pt_val (pe_fld (pe_fld (pv 0) rfl) rfl))) (pw_and1 (pt_cmpR op_gt (pe_methR (pv 0) TU.cl UN.stamp_of RU_stamp_of (hr.mono (by decide)) pass0 (pa_cons (pv 1) pa_nil)) pe_int (nomark _)))))
 (pss_one (ps_ret pe_str))
 pss_nil)
 (pss_one (ps_ret (pe_ifExp (pt_val (pe_call G_is_taken (hr.mono (by decide)) rfl g_is_taken F_is_taken.kp B_is_taken .nil pass0 (pa_cons (pv 0) (pa_cons (pv 1) (pa_cons (pv 2) pa_nil))))) pe_str pe_non))))), ?_⟩
    obtain ⟨dx, tx, fx, hx, ⟨dt, tc, tk, tf, tu, htx, hc, hk, hf0, hu0⟩, hf⟩ := tr.ex
    walk_at "rd"
    refine ⟨x, dx, _, rfl, hx, x, kd, od, sd, z, .ref b, some ns, rfl, tr, .inl ⟨b, ns, rfl, ka, rfl⟩, fun H1 s1 => ⟨_, rfl, ?_⟩⟩
    unfold dueI at q
    cases ev : valV z.kvs (kk ns) with
    | some v0 =>
      have qq := q H1
      simp only [hasV, ev] at qq ⊢
      exact ⟨_, rfl, iteT (qq s1)⟩
    | none =>
      rw [if_neg (by rw [ev]; decide)] at q
      simp only [hasV, ev]
      refine ⟨_, rfl, iteF ?_⟩
      walk_at "rd"
      refine ⟨_, rfl, x, U, dx, _, _, rfl, s1 _ _ hx, TU.cl, TU.nT, lt_table, tx, C, dt, _, _, rfl, s1 _ _ htx, T.cl, T.nR, lk_reuse, z.t.r, rfl, ?_⟩
      have fin : ∀ H2, Same H H2 → (∀ H', Same H H' → Q (orS (if tkB H z ns (ctn H v) = true then some "unique" else none)) H') → sp_taken U C D [.ref x, .ref b, v] H2 (fun y H3 => ∃ k, y = .bl k ∧ if k = true then Q (.str "unique") H3 else Q .non H3) E0 := fun H2 s2 q2 => by
        refine ⟨x, kd, od, sd, z, b, v, ns, rfl, tr.up s2, s2 _ _ ka.at_, oo.up s2, rv.up s2, fun H3 s3 => ⟨_, rfl, ?_⟩⟩
        have q3 := q2 H3 fun c o e => s3 _ _ (s2 _ _ e)
        rw [tkB_tup (fun _ _ => s2 _ _) oo, rv.ctn (fun _ _ => s2 _ _)]
        cases et : tkB H z ns (ctn H v) with
        | true =>
          rw [et] at q3
          exact iteT q3
        | false =>
          rw [et] at q3
          exact iteF q3
      cases er : z.t.r with
      | true =>
        rw [if_neg (fun e => by rw [er] at e; cases e.1)] at q
        refine iteF ?_
        refine iteF ?_
        walk_at "rd"
        exact fin H1 s1 q
      | false =>
        refine iteT ?_
        walk_at "rd"
        refine i_methR ?_
        walk_at "rd"
        refine ⟨x, dx, _, rfl, s1 _ _ hx, lt_meth (.inr (.inr (.inr (.inr (.inr (.inr rfl)))))), ?_⟩
        walk_at "rd"
        refine ⟨x, kd, od, sd, z, .ref b, some ns, rfl, tr.up s1, .inl ⟨b, ns, rfl, ka.up s1, rfl⟩, fun H2 s2 => ?_⟩
        have s02 : Same H H2 := fun c o e => s2 _ _ (s1 _ _ e)
        simp only [gotV]
        cases es : valV z.sts (kk ns) with
        | none =>
          rw [if_neg (fun e => by rw [es] at e; cases e.2)] at q
          rw [Option.getD_none]
          walk_at "rd"
          refine iteF ?_
          walk_at "rd"
          exact fin H2 s02 q
        | some sv =>
          obtain ⟨n, rfl, hn⟩ := so _ _ es
          rw [if_pos ⟨er, by rw [es]; rfl⟩] at q
          rw [Option.getD_some]
          walk_at "rd"
          rw [decide_eq_true (show (0 : Int) < (n : Int) by omega)]
          refine iteT ?_
          walk_at "rd"
          exact q H2 s02
abbrev s_why_not_updated : Stmt := top 37
theorem sc_why_not_updated : FnScope ["truth", "key", "row", "table"] ["truth", "key", "row"] (defScope s_why_not_updated) := ⟨rfl, rfl, rfl, by decide +kernel, rfl, by decide +kernel, by decide +kernel⟩
def sp_wnu (U C D : Addr) : Sp := fun vs H Q _ => ∃ x kd od sd z b ns r us o, vs = [.ref x, .ref b, .ref r] ∧ Tru U C D H x kd od sd z ∧ KeyAt H b ns z.t.ks.length ∧ OsOk H z ∧ H r = some (.tup us) ∧ us.length = z.t.cs.length ∧ (∀ u, u ∈ us → Plain u) ∧ valV z.kvs (kk ns) = some o ∧ o ≠ .non ∧ RowG H z.t o ∧
  ∀ H', Same H H' → Q (orS (dueU H z ns us o)) H'
theorem ok_wnu {f fK : Addr} {fd fdK : FuncData} (F : Fun K "why_not_updated" "why_not_updated" s_why_not_updated f fd) (T : ClsT K mg C fI mc p g) (CN : ClsN K C hI hK hC) (R_cut : FnR P w K mg base CX0 1 hC (mC K C)) (TU : ClsU K mg U fT) (UN : ClsUN K U mI mU mD mC' mW mO mS fL fC)
    (RU_row_of : FnR P w K mg base CX0 5 mO (fun vs H Q E => sp_urow K U C D (vs ++ []) H Q E))
    (F_is_taken : Fun K "is_taken" "is_taken" s_is_taken fK fdK) (B_is_taken : Binds K fdK ["truth", "key", "row"] []) (g_is_taken : mg "is_taken" = some (.ref fK)) (G_is_taken : FnOk P w K mg base CX0 3 fK fdK ["truth", "key", "row"] (sp_taken U C D)) :
    FnOk P w K mg base CX0 6 f fd ["truth", "key", "row"] (sp_wnu U C D) := by
  refine F.ok sc_why_not_updated (fun vs H Q E h => ?_) (fun cdv A outer s H vs Q E hr h => ?_)
  · obtain ⟨x, kd, od, sd, z, b, ns, r, us, o, rfl, _⟩ := h
    rfl
  · obtain ⟨x, kd, od, sd, z, b, ns, r, us, o, rfl, tr, ka, oo, hr', hl, pl, ev, on, ro, q⟩ := h
    obtain ⟨r0, us0, rfl, hr0, hl0, pl0⟩ := ro.resolve_left on
    refine ⟨_, (pss_cons (ps_set (i := 3) sc_why_not_updated.nd rfl (Or.inl rfl) (pe_fld (pv 0) rfl))
 (pss_cons (ps_if (pt_cmpR (op_neD hr.units) (pe_methR (pv 3) T.cl CN.cut R_cut (hr.mono (by decide)) pass0 (pa_cons (pv 2) (pa_cons (pe_fld (pv 3) rfl) pa_nil))) (pe_methR (pv 3) T.cl CN.cut R_cut (hr.mono (by decide)) pass0 (pa_cons (pe_methR (pv 0) TU.cl UN.row_of RU_row_of (hr.mono (by decide)) pass0 (pa_cons (pv 1) pa_nil)) (pa_cons (pe_fld (pv 3) rfl) pa_nil))) (nomark _))
 (pss_one (ps_ret pe_str))
 pss_nil)
 (pss_one (ps_ret (pe_ifExp (pt_val (pe_call G_is_taken (hr.mono (by decide)) rfl g_is_taken F_is_taken.kp B_is_taken .nil pass0 (pa_cons (pv 0) (pa_cons (pv 1) (pa_cons (pv 2) pa_nil))))) pe_str pe_non))))), ?_⟩
    obtain ⟨dx, tx, fx, hx, ht, hf⟩ := tr.ex
    obtain ⟨dt, tc, tk, tf, tu, htx, hc, hk, hf0, hu0⟩ := id ht
    have fz := tr.ok.fz
    have fsub := tr.ok.fsub
    unfold dueU at q
    rw [ctn_at hr0] at q
    walk_at "rd"
    refine ⟨_, rfl, x, U, dx, _, _, rfl, hx, TU.cl, TU.nT, lt_table, ?_⟩
    walk_at "rd"
    refine i_methR ?_
    walk_at "rd"
    refine ⟨tx, dt, _, rfl, htx, lk_meth (.inl rfl), ?_⟩
    walk_at "rd"
    refine ⟨_, rfl, tx, C, dt, _, _, rfl, htx, T.cl, T.nF, lk_fixed, ?_⟩
    walk_at "rd"
    refine ⟨tx, r, tf, z.t, us, z.t.fs, rfl, ht, hr', hl, SqT.of hf0, by omega, fsub, fun q1 H1 s1 h1 => ?_⟩
    refine i_methR ?_
    walk_at "rd"
    refine ⟨tx, dt, _, rfl, s1 _ _ htx, lk_meth (.inl rfl), ?_⟩
    walk_at "rd"
    refine i_methR ?_
    walk_at "rd"
    refine ⟨x, dx, _, rfl, s1 _ _ hx, lt_meth (.inr (.inr (.inr (.inr (.inr (.inl rfl)))))), ?_⟩
    walk_at "rd"
    refine ⟨x, kd, od, sd, z, .ref b, some ns, rfl, tr.up s1, .inl ⟨b, ns, rfl, ka.up s1, rfl⟩, fun H2 s2 => ?_⟩
    have s02 : Same H H2 := fun b o z => s2 _ _ (s1 _ _ z)
    simp only [gotV, ev, Option.getD_some]
    walk_at "rd"
    refine ⟨_, rfl, tx, C, dt, _, _, rfl, s02 _ _ htx, T.cl, T.nF, lk_fixed, ?_⟩
    walk_at "rd"
    refine ⟨tx, r0, tf, z.t, us0, z.t.fs, rfl, ht.up s02, s02 _ _ hr0, hl0, SqT.of (s02 _ _ hf0), by omega, fsub, fun q2 H3 s3 h3 => ?_⟩
    have s13 : Same H1 H3 := fun b o z => s3 _ _ (s2 _ _ z)
    have s03 : Same H H3 := fun b o z => s3 _ _ (s02 _ _ z)
    refine ne_plain (s13 _ _ h1) h3 (picked_plain pl) (picked_plain pl0) ⟨_, rfl, ?_⟩
    by_cases ef : picked z.t.cs us z.t.fs ≠ picked z.t.cs us0 z.t.fs
    · rw [if_pos ef] at q
      rw [decide_eq_true ef]
      refine iteT ?_
      walk_at "rd"
      exact q H3 s03
    · rw [if_neg ef] at q
      rw [decide_eq_false ef]
      refine iteF ?_
      walk_at "rd"
      refine ⟨x, kd, od, sd, z, b, .ref r, ns, rfl, tr.up s03, s03 _ _ ka.at_, oo.up s03, .inr ⟨r, us, rfl, s03 _ _ hr', hl, pl⟩, fun H4 s4 => ⟨_, rfl, ?_⟩⟩
      have q4 := q H4 fun c o e => s4 _ _ (s03 _ _ e)
      rw [tkB_tup (fun _ _ => s03 _ _) oo, ctn_at (s03 _ _ hr')]
      cases et : tkB H z ns us with
      | true =>
        rw [et] at q4
        exact iteT q4
      | false =>
        rw [et] at q4
        exact iteF q4
end
end Spk

set_option Elab.async false
set_option linter.all false
set_option maxRecDepth 100000
set_option maxHeartbeats 4000000
namespace Spk
open PySem L2
local macro_rules | `(tactic| walk_at "rd") => `(tactic| repeat (first
  | with_reducible refine i_seq ?_ | with_reducible refine i_asg ?_ | with_reducible refine i_ret ?_ | with_reducible refine i_ifS ?_ | with_reducible refine i_if ?_
  | with_reducible refine i_for ?_ | with_reducible refine i_iL ?_ | with_reducible refine i_iT ?_ | with_reducible refine i_ckw ?_ | with_reducible refine i_cm ?_ | with_reducible refine And.intro (rfl : V.ref _ = V.ref _) ?_ | with_reducible refine i_rng1 ?_ | with_reducible refine i_bm ?_ | with_reducible refine i_bm0 ?_
  | with_reducible refine i_drop ?_ | with_reducible refine i_next ?_
  | with_reducible refine i_var rfl ?_ | with_reducible refine i_c ?_ | with_reducible refine i_op ?_ | with_reducible refine i_un ?_ | with_reducible refine i_name ?_
  | with_reducible refine i_rI0 ?_ | with_reducible refine i_rU ?_ | with_reducible refine i_rEq rfl ?_ | with_reducible refine i_rNe rfl ?_
  | with_reducible refine i_test ?_ | with_reducible refine i_tB ?_ | with_reducible refine i_and ?_ | with_reducible refine i_or ?_ | with_reducible refine i_not ?_
  | with_reducible refine i_andV ?_ | with_reducible refine i_orV ?_ | with_reducible refine i_notV ?_
  | with_reducible refine i_cons ?_ | with_reducible refine i_nil ?_ | with_reducible refine i_cb ?_ | with_reducible refine i_call ?_ | with_reducible refine i_bl ?_
  | with_reducible refine i_tup ?_ | with_reducible refine i_lst ?_ | with_reducible refine i_par ?_ | with_reducible refine i_gcons ?_ | with_reducible refine i_gnil ?_
  | with_reducible refine And.intro (rfl : V.non = V.non) ?_ | with_reducible refine i_ixT (by assumption) rfl ?_ | with_reducible refine i_ixL (by assumption) rfl ?_ | with_reducible refine i_gtup (by assumption) rfl ?_
  | with_reducible refine i_gsub ?_
  | with_reducible refine Or.inl (Exists.intro _ (And.intro (rfl : [V.int _] = [V.int _]) ?_)) | with_reducible refine Exists.intro _ (And.intro (rfl : [V.int _] = [V.int _]) ?_)
  | with_reducible refine Or.inr (Exists.intro _ (And.intro (rfl : [V.bl _] = [V.bl _]) ?_))
  | with_reducible refine Exists.intro _ (Exists.intro _ (And.intro (rfl : [V.int _, V.int _] = [V.int _, V.int _]) ?_))
  | with_reducible refine Exists.intro _ (Exists.intro _ (And.intro (rfl : [V.ref _] = [V.ref _]) (And.intro (Or.inl (SqL.of (by assumption))) ?_)))
  | with_reducible refine i_rI (show (0 : Int) < _ by assumption) ?_ | with_reducible refine i_rI (show (0 : Int) < _ by decide) ?_
  | with_reducible refine i_rI (pow_ok (Nat.le_of_ble_eq_true rfl) (Nat.le_of_ble_eq_true rfl)) ?_
  | with_reducible refine i_rI (cmulL rfl) ?_))
/-! ### changes -/
/-- what InvalidChange's class tells -/
structure XCt (K : PySem.W.Frag) (mg : Str → Option Value) (CC fX : Addr) : Prop where
  o : OexC K CC
  iC : PySem.W.findIn K (.ref CC) "__init__" = some (some (.ref fX))
  tI : PySem.W.typeIn K (.ref fX) = some (.type "function")
  g : mg "InvalidChange" = some (.ref CC)
  noR : PySem.W.findIn K (.ref CC) "reason" = some none
/-- but for the made rows at x, their rows and their stamps all is as it was -/
def OffT (x kd od sd : Addr) (H H' : Hp) : Prop := ∀ c o, c ≠ x → c ≠ kd → c ≠ od → c ≠ sd → H c = some o → H' c = some o
theorem OffT.trans {x kd od sd : Addr} {H H1 H2 : Hp} (a : OffT x kd od sd H H1) (b : OffT x kd od sd H1 H2) : OffT x kd od sd H H2 := fun c o n1 n2 n3 n4 h => b c o n1 n2 n3 n4 (a c o n1 n2 n3 n4 h)
theorem Same.offT {x kd od sd : Addr} {H H' : Hp} (e : Same H H') : OffT x kd od sd H H' := fun c o _ _ _ _ h => e c o h
/-- where made rows stand -/
structure Spot (H : Hp) (x kd od sd : Addr) : Prop where
  hx : ∃ U dx tx fx kd od sd n, H x = some (.ins U dx (tflds tx fx kd od sd n))
  hk : ∃ l, H kd = some (.dT l)
  ho : ∃ l, H od = some (.dT l)
  hs : ∃ l, H sd = some (.dT l)
theorem Tru.spot {U C D : Addr} {H : Hp} {x kd od sd : Addr} {z : Tw} (h : Tru U C D H x kd od sd z) : Spot H x kd od sd := by
  obtain ⟨dx, tx, fx, hx, _⟩ := h.ex
  exact ⟨⟨U, dx, tx, fx, kd, od, sd, _, hx⟩, ⟨_, h.hk⟩, ⟨_, h.ho⟩, ⟨_, h.hs⟩⟩
theorem OffT.get {x kd od sd : Addr} {H H' : Hp} (o : OffT x kd od sd H H') (sp : Spot H x kd od sd) {a : Addr} {v : HO} (h : H a = some v) (nd : ∀ l, v ≠ .dT l) (ni : ∀ U dx tx fx kd od sd n, v ≠ .ins U dx (tflds tx fx kd od sd n)) : H' a = some v := by
  obtain ⟨⟨U, dx, tx, fx, kd', od', sd', n, hx⟩, ⟨l1, hk⟩, ⟨l3, ho⟩, ⟨l2, hs⟩⟩ := sp
  refine o a v (fun e => ?_) (fun e => ?_) (fun e => ?_) (fun e => ?_) h
  · subst e
    rw [hx] at h
    exact ni _ _ _ _ _ _ _ _ (Option.some.inj h).symm
  · subst e
    rw [hk] at h
    exact nd _ (Option.some.inj h).symm
  · subst e
    rw [ho] at h
    exact nd _ (Option.some.inj h).symm
  · subst e
    rw [hs] at h
    exact nd _ (Option.some.inj h).symm
theorem OffT.tup {x kd od sd : Addr} {H H' : Hp} (o : OffT x kd od sd H H') (sp : Spot H x kd od sd) {a : Addr} {xs : List V} (h : H a = some (.tup xs)) : H' a = some (.tup xs) := o.get sp h (fun _ z => nomatch z) fun _ _ _ _ _ _ _ _ z => nomatch z
theorem OffT.lst {x kd od sd : Addr} {H H' : Hp} (o : OffT x kd od sd H H') (sp : Spot H x kd od sd) {a : Addr} {xs : List V} (h : H a = some (.lst xs)) : H' a = some (.lst xs) := o.get sp h (fun _ z => nomatch z) fun _ _ _ _ _ _ _ _ z => nomatch z
theorem ins_ne {U C dx dt : Addr} {k : Str} {v : V} {fs : List (Str × V)} {tx fx kd od sd : Addr} {n : Nat} (hk : k ≠ "table") : HO.ins C dt ((k, v) :: fs) ≠ .ins U dx (tflds tx fx kd od sd n) := fun e => by
  have e3 : (k, v) :: fs = tflds tx fx kd od sd n := by injection e
  exact hk (Prod.mk.inj (List.cons.inj e3).1).1
theorem Tab.offT {C x kd od sd : Addr} {H H' : Hp} (o : OffT x kd od sd H H') (sp : Spot H x kd od sd) {a : Addr} {t : Tb} (h : Tab C H a t) : Tab C H' a t := by
  obtain ⟨dx, tc, tk, tf, tu, h1, ⟨ob, h2, r⟩, h3, h4, h5⟩ := h
  exact ⟨dx, tc, tk, tf, tu, o.get sp h1 (fun _ z => nomatch z) (fun _ _ _ _ _ _ _ _ => ins_ne (by decide)), ⟨ob, o.get sp h2 (fun _ z => nomatch z) (fun _ _ _ _ _ _ _ _ z => nomatch z), r⟩, o.tup sp h3, o.tup sp h4, o.tup sp h5⟩
theorem Fil.offT {D x kd od sd : Addr} {H H' : Hp} (o : OffT x kd od sd H H') (sp : Spot H x kd od sd) {a : Addr} {t : Fi.Tr} (h : Fi.Fil D H a t) : Fi.Fil D H' a t := by
  obtain ⟨dx, v, q, cs, h1, h2, h3, h4⟩ := h
  refine ⟨dx, v, q, cs, o.get sp h1 (fun _ z => nomatch z) (fun _ _ _ _ _ _ _ _ => ins_ne (by decide)), h2.via (fun a xs z => o.tup sp z) (fun a ps z => ?_), o.tup sp h3, h4⟩
  obtain ⟨vs, hv, tv⟩ := z
  exact ⟨vs, o.tup sp hv, Paired.mapP tv fun _ _ ⟨a, e, ha⟩ => ⟨a, e, o.tup sp ha⟩⟩
/-- what is wished: a key to delete, a row to insert or to write -/
def Wish (H : Hp) (t : Tb) (w : Str) (y : V) (ns : List Int) : Prop :=
  (w = "delete" ∧ ∃ b, y = .ref b ∧ KeyAt H b ns t.ks.length) ∨
  ((w = "insert" ∨ w = "update") ∧ ∃ r us, y = .ref r ∧ H r = some (.tup us) ∧ RowOk t.ks t.cs us ∧ picked t.cs us t.ks = ns.map V.int ∧ Tiny ns ∧ ns.length = t.ks.length)
theorem Wish.up {H H' : Hp} {t : Tb} {w : Str} {y : V} {ns : List Int} (e : Same H H') (h : Wish H t w y ns) : Wish H' t w y ns := by
  rcases h with ⟨a, b, c, k⟩ | ⟨a, r, us, b, c, d⟩
  · exact .inl ⟨a, b, c, k.up e⟩
  · exact .inr ⟨a, r, us, b, e _ _ c, d⟩
/-- the rows are rows -/
def RowsG (H : Hp) (z : Tw) : Prop := ∀ k v, valV z.kvs k = some v → v ≠ .non ∧ RowG H z.t v
theorem RowsG.tup {H H' : Hp} {z : Tw} (e : ∀ a us, H a = some (.tup us) → H' a = some (.tup us)) (h : RowsG H z) : RowsG H' z := fun k v a => ⟨(h k v a).1, (h k v a).2.tup e⟩
theorem RowsG.up {H H' : Hp} {z : Tw} (e : Same H H') (h : RowsG H z) : RowsG H' z := h.tup fun _ _ => e _ _
theorem RowsG.rowG {H : Hp} {z : Tw} (h : RowsG H z) (k : List Key) : RowG H z.t ((valV z.kvs k).getD .non) := by
  cases e : valV z.kvs k with
  | none => exact .inl rfl
  | some v => exact (h k v e).2
theorem dueI_tup {H H' : Hp} {z : Tw} {ns : List Int} {us : List V} (e : ∀ a us, H a = some (.tup us) → H' a = some (.tup us)) (h : OsOk H z) : dueI H' z ns us = dueI H z ns us := by
  unfold dueI
  rw [tkB_tup e h]
theorem dueU_tup {H H' : Hp} {z : Tw} {ns : List Int} {us : List V} {o : V} (e : ∀ a us, H a = some (.tup us) → H' a = some (.tup us)) (h : OsOk H z) (ro : RowG H z.t o) : dueU H' z ns us o = dueU H z ns us o := by
  unfold dueU
  rw [tkB_tup e h, ro.ctn e]
theorem Wish.rowG {H : Hp} {t : Tb} {w : Str} {y : V} {ns : List Int} (h : Wish H t w y ns) (hw : w ≠ "delete") : ∃ r us, y = .ref r ∧ H r = some (.tup us) ∧ us.length = t.cs.length ∧ ∀ u, u ∈ us → Plain u := by
  rcases h with ⟨e, _⟩ | ⟨_, r, us, b, c, d, _⟩
  · exact absurd e hw
  · exact ⟨r, us, b, c, Paired.length d, row_plain d⟩
theorem dueW_tup {H H' : Hp} {z : Tw} {w : Str} {ns : List Int} {y : V} (e : ∀ a us, H a = some (.tup us) → H' a = some (.tup us)) (h : OsOk H z) (ri : RowsG H z) (wi : Wish H z.t w y ns) : dueW H' z w ns y = dueW H z w ns y := by
  unfold dueW
  by_cases hi : w = "insert"
  · obtain ⟨r, us, rfl, hr, _⟩ := wi.rowG (by rw [hi]; decide)
    rw [if_pos hi, if_pos hi, ctn_at hr, ctn_at (e _ _ hr), dueI_tup e h]
  · rw [if_neg hi, if_neg hi]
    cases ev : valV z.kvs (kk ns) with
    | none => rfl
    | some o =>
      dsimp only
      by_cases hd : w = "delete"
      · rw [if_pos hd, if_pos hd]
      · obtain ⟨r, us, rfl, hr, _⟩ := wi.rowG hd
        rw [if_neg hd, if_neg hd, ctn_at hr, ctn_at (e _ _ hr), dueU_tup e h (ri _ _ ev).2]
/-- the owners behind a change: without the old places, with the new ones -/
def osAft (os : List (List Key × V)) (po pn : List (Str × Int)) (b : Addr) : List (List Key × V) := pn.foldl (fun l p => putK l (kp p) (.ref b)) (po.foldl (fun l p => dropK l (kp p)) os)
/-- the made rows behind a change, its key at b -/
def chg (H : Hp) (z : Tw) (w : Str) (ns : List Int) (y : V) (b : Addr) : Tw :=
  { z with kvs := if w = "delete" then dropK z.kvs (kk ns) else putK z.kvs (kk ns) y, sts := putK z.sts (kk ns) (.int ((z.n + 1 : Nat) : Int)), n := z.n + 1,
           os := osAft z.os (places z.t (ctn H ((valV z.kvs (kk ns)).getD .non))) (places z.t (ctn H (if w = "delete" then .non else y))) b }
section
variable {P : Program} {w : World} {K : PySem.W.Frag} {mg : Str → Option Value} {base : Heap} {C fI p g U D fT fF CC fX : Addr} {mc : Value} {hI hK hC mI mU mD mC' mW mO mS fL fC : Addr}
abbrev s_InvalidChange__init : Stmt := inClass (top 4) 0
theorem sc_InvalidChange__init : FnScope ["self", "reason"] ["self", "reason"] (defScope s_InvalidChange__init) := ⟨rfl, rfl, rfl, by decide +kernel, rfl, by decide +kernel, by decide +kernel⟩
theorem ok_cinit {fd : FuncData} (F : Fun K "__init__" "InvalidChange.__init__" s_InvalidChange__init fX fd) (XC : XCt K mg CC fX) : FnOk P w K mg base CX0 1 fX fd ["self", "reason"] (sp_iinit CC) := by
  refine F.ok sc_InvalidChange__init (fun vs H Q E h => ?_) (fun cdv A outer s H vs Q E hr h => ?_)
  · obtain ⟨a, y, rfl, _⟩ := h
    rfl
  · obtain ⟨a, y, rfl, ha, q⟩ := h
    refine ⟨_, (pss_one (ps_ost (pv 0) (pv 1))), ?_⟩
    refine i_ost ?_
    walk_at "rd"
    exact ⟨a, CC, rfl, XC.o, XC.noR, .inl ⟨ha, fun dx hdx hne => q dx hdx hne⟩⟩
abbrev s_why_not : Stmt := top 35
theorem sc_why_not : FnScope ["truth", "word", "thing", "table", "key"] ["truth", "word", "thing"] (defScope s_why_not) := ⟨rfl, rfl, rfl, by decide +kernel, rfl, by decide +kernel, by decide +kernel⟩
def sp_why (U C D : Addr) : Sp := fun vs H Q _ => ∃ x kd od sd z w y ns, vs = [.ref x, .str w, y] ∧ Tru U C D H x kd od sd z ∧ OsOk H z ∧ StOk z ∧ Wish H z.t w y ns ∧ RowsG H z ∧ ∀ H', Same H H' → Q (orS (dueW H z w ns y)) H'
theorem ok_why {f fK fG fJ fV : Addr} {fd fdK fdG fdJ fdV : FuncData} (F : Fun K "why_not" "why_not" s_why_not f fd) (T : ClsT K mg C fI mc p g) (CN : ClsN K C hI hK hC) (R_is_row : FnR P w K mg base CX0 3 hI (mR K C)) (R_key_of : FnR P w K mg base CX0 2 hK (mY C)) (TU : ClsU K mg U fT) (UN : ClsUN K U mI mU mD mC' mW mO mS fL fC)
    (RU_contains : FnR P w K mg base CX0 4 fC (mCon K U C D)) (TF : Fi.ClsF K mg D fF)
    (F_is_key : Fun K "is_key" "is_key" s_is_key fK fdK) (B_is_key : Binds K fdK ["thing", "size"] []) (g_is_key : mg "is_key" = some (.ref fK)) (G_is_key : FnOk P w K mg base CX0 3 fK fdK ["thing", "size"] (sp_is_key K))
    (F_truth_of : Fun K "truth_of" "truth_of" Fi.s_truth_of fG fdG) (B_truth_of : Binds K fdG ["tree", "values"] []) (g_truth_of : mg "truth_of" = some (.ref fG)) (G_truth_of : FnOk P w K mg base CX0 23 fG fdG ["tree", "values"] (Fi.sp_truth 20))
    (F_why_not_inserted : Fun K "why_not_inserted" "why_not_inserted" s_why_not_inserted fJ fdJ) (B_why_not_inserted : Binds K fdJ ["truth", "key", "row"] []) (g_why_not_inserted : mg "why_not_inserted" = some (.ref fJ)) (G_why_not_inserted : FnOk P w K mg base CX0 5 fJ fdJ ["truth", "key", "row"] (sp_wni U C D))
    (F_why_not_updated : Fun K "why_not_updated" "why_not_updated" s_why_not_updated fV fdV) (B_why_not_updated : Binds K fdV ["truth", "key", "row"] []) (g_why_not_updated : mg "why_not_updated" = some (.ref fV)) (G_why_not_updated : FnOk P w K mg base CX0 6 fV fdV ["truth", "key", "row"] (sp_wnu U C D))
    (z_len : mg "len" = none) (z_dict : mg "dict" = none) (z_zip : mg "zip" = none) :
    FnOk P w K mg base CX0 24 f fd ["truth", "word", "thing"] (sp_why U C D) := by
  refine F.ok sc_why_not (fun vs H Q E h => ?_) (fun cdv A outer s H vs Q E hr h => ?_)
  · obtain ⟨x, kd, od, sd, z, w, y, ns, rfl, _⟩ := h
    rfl
  · obtain ⟨x, kd, od, sd, z, w, y, ns, rfl, tr, oo, so, wi, ri, q⟩ := h
    refine ⟨_, (pss_cons (ps_set (i := 3) sc_why_not.nd rfl (Or.inl rfl) (pe_fld (pv 0) rfl))
 (C8.pss_cut (ps_if (pt_cmpR op_eq (pv 1) pe_str (nomark _))
 (pss_cons (ps_if (pt_not (pt_val (pe_call G_is_key (hr.mono (by decide)) rfl g_is_key F_is_key.kp B_is_key .nil pass0 (pa_cons (pv 2) (pa_cons (pe_callB call_len_seq (by rfl) z_len PySem.boot_len (pa_cons (pe_fld (pv 3) rfl) pa_nil)) pa_nil)))))
 (pss_one (ps_ret pe_str))
 pss_nil)
 (pss_one (ps_set (i := 4) sc_why_not.nd rfl (Or.inl rfl) (pv 2))))
 (pss_cons (ps_if (pt_not (pt_val (pe_methR (pv 3) T.cl CN.is_row R_is_row (hr.mono (by decide)) pass0 (pa_cons (pv 2) pa_nil))))
 (pss_one (ps_ret pe_str))
 pss_nil)
 (pss_one (ps_set (i := 4) sc_why_not.nd rfl (Or.inl rfl) (pe_methR (pv 3) T.cl CN.key_of R_key_of (hr.mono (by decide)) pass0 (pa_cons (pv 2) pa_nil))))))
 (pss_cons (ps_if (pt_cmpR op_notTr (pe_call G_truth_of (hr.mono (by decide)) rfl g_truth_of F_truth_of.kp B_truth_of .nil pass0 (pa_cons (pe_fld (pe_fld (pv 0) rfl) rfl) (pa_cons (pe_dictZ rfl (by rfl) z_dict (by rfl) z_zip (pa_cons (pe_fld (pv 3) rfl) (pa_cons (pv 4) pa_nil))) pa_nil))) pe_bl (nomark _))
 (pss_one (ps_ret pe_str))
 pss_nil)
 (pss_cons (ps_if (pt_cmpR op_eq (pv 1) pe_str (nomark _))
 (pss_one (ps_ret (pe_call G_why_not_inserted (hr.mono (by decide)) rfl g_why_not_inserted F_why_not_inserted.kp B_why_not_inserted .nil pass0 (pa_cons (pv 0) (pa_cons (pv 4) (pa_cons (pv 2) pa_nil))))))
 pss_nil)
 (pss_cons (ps_if (pt_cmpR (op_notInO RU_contains (hr.mono (by decide)) UN.inF UN.inI) (pv 4) (pv 0) (by rfl))
 (pss_one (ps_ret pe_str))
 pss_nil)
 (pss_one (ps_ret (pe_ifExp (pt_cmpR op_eq (pv 1) pe_str (nomark _)) pe_non (pe_call G_why_not_updated (hr.mono (by decide)) rfl g_why_not_updated F_why_not_updated.kp B_why_not_updated .nil pass0 (pa_cons (pv 0) (pa_cons (pv 4) (pa_cons (pv 2) pa_nil)))))))))))), ?_⟩
    obtain ⟨dx, tx, fx, hx, ht, hf⟩ := tr.ex
    obtain ⟨dt, tc, tk, tf, tu, htx, hc, hk, hf0, hu0⟩ := id ht
    have kz := tr.ok.kz
    have wi0 := wi
    walk_at "rd"
    refine ⟨_, rfl, x, U, dx, _, _, rfl, hx, TU.cl, TU.nT, lt_table, ?_⟩
    refine ⟨fun σ' H' => ∃ b, σ' = [some (.ref x), some (.str w), some y, some (.ref tx), some (.ref b)] ∧ Same H H' ∧ KeyAt H' b ns z.t.ks.length, ?_, ?_⟩
    · walk_at "rd"
      rcases wi with ⟨rfl, b, rfl, ka⟩ | ⟨hw, r, us, rfl, hr', ro, pk, tn, nl⟩
      · rw [decide_eq_true rfl]
        refine iteT ?_
        walk_at "rd"
        refine ⟨_, rfl, tx, C, dt, _, _, rfl, htx, T.cl, T.nK, lk_key, ?_⟩
        walk_at "rd"
        refine ⟨tk, _, rfl, .inr (SqT.of hk), ?_⟩
        walk_at "rd"
        rw [List.length_map]
        refine ⟨_, _, true, rfl, by omega, ka.keyed, fun H1 s1 => ⟨_, rfl, iteF ?_⟩⟩
        walk_at "rd"
        exact ⟨b, rfl, s1, ka.up s1⟩
      · have wn : ¬ (V.str w = V.str "delete") := fun e => by
          have e1 := V.str.inj e
          rcases hw with e2 | e2 <;> rw [e2] at e1 <;> exact absurd e1 (by decide)
        rw [decide_eq_false wn]
        refine iteF ?_
        walk_at "rd"
        refine i_methR ?_
        walk_at "rd"
        refine ⟨tx, dt, _, rfl, htx, lk_meth (.inr (.inl rfl)), ?_⟩
        walk_at "rd"
        have ul : us.length = z.t.cs.length := Paired.length ro
        obtain ⟨js, sj, al⟩ := row_says (K := K) (H := H) ro
        refine ⟨tx, .ref r, true, z.t, rfl, ht, by have := tr.ok.cz; omega, .inr (.inr ⟨r, us, js, rfl, hr', ul, sj, al.symm⟩), fun H1 s1 => ⟨_, rfl, iteF ?_⟩⟩
        walk_at "rd"
        refine i_methR ?_
        walk_at "rd"
        refine ⟨tx, dt, _, rfl, s1 _ _ htx, lk_meth (.inr (.inr rfl)), ?_⟩
        walk_at "rd"
        refine ⟨tx, r, z.t, us, rfl, ht.up s1, s1 _ _ hr', ul, by omega, tr.ok.sub, fun b H2 s2 h2 => ?_⟩
        rw [pk] at h2
        walk_at "rd"
        exact ⟨b, rfl, fun c o e => s2 _ _ (s1 _ _ e), ⟨h2, nl, tn⟩⟩
    · rintro σ' H1 ⟨b, rfl, s1, ka⟩
      walk_at "rd"
      obtain ⟨df, v, qf, cf, hfx, htr, hq0, cok⟩ := hf.up s1
      refine ⟨_, rfl, x, U, dx, _, _, rfl, s1 _ _ hx, TU.cl, TU.nR, lt_region, fx, D, df, _, _, rfl, hfx, TF.cl, TF.nT, Fi.lk_tree, ?_⟩
      unfold tDictZ
      walk_at "rd"
      refine ⟨_, rfl, tx, C, dt, _, _, rfl, s1 _ _ htx, T.cl, T.nK, lk_key, ?_⟩
      walk_at "rd"
      refine ⟨tk, b, z.t.ks, ns.map V.int, rfl, SqT.of (s1 _ _ hk), SqT.of ka.at_, by rw [List.length_map]; exact ka.z.symm, fun m hm => ?_⟩
      obtain ⟨H2, e2, s2, h2⟩ := new_heap (o := .dK (mergeK [] ((z.t.ks.map (Sum.inr : Str → Key)).zip (ns.map V.int)))) hm
      rw [e2]
      walk_at "rd"
      have va := vals_key h2 tr.ok.kn ka.z.symm
      refine ⟨z.r, v, m, rhoK z.t.ks ns, rfl, htr.up s2, tr.dp, va.sub tr.rc, fun H3 s3 => ?_⟩
      have s03 : Same H H3 := fun c o e => s3 _ _ (s2 _ _ (s1 _ _ e))
      have ka3 : KeyAt H3 b ns z.t.ks.length := (ka.up s2).up s3
      have q3 : ∀ H', Same H3 H' → Q (orS (dueW H3 z w ns y)) H' := fun H' e => by
        rw [dueW_tup (fun _ _ => s03 _ _) oo ri wi0]
        exact q H' fun c o a => e _ _ (s03 _ _ a)
      refine ⟨z.r.sem (rhoK z.t.ks ns), true, rfl, rfl, ?_⟩
      refine ⟨_, rfl, ?_⟩
      cases ei : inR z ns with
      | false =>
        have e1 : decide (z.r.sem (rhoK z.t.ks ns) = some true) = false := ei
        rw [e1]
        refine iteT ?_
        have q4 := q3 H3 (Same.refl _)
        unfold dueW at q4
        rw [if_pos ei] at q4
        exact q4
      | true =>
        have e1 : decide (z.r.sem (rhoK z.t.ks ns) = some true) = true := ei
        rw [e1]
        refine iteF ?_
        have ne : ¬ (inR z ns = false) := by rw [ei]; decide
        unfold dueW at q3
        rw [if_neg ne] at q3
        walk_at "rd"
        have wi3 := wi.up s03
        by_cases hi : w = "insert"
        · rw [if_pos hi] at q3
          rw [decide_eq_true (by rw [hi])]
          refine iteT ?_
          walk_at "rd"
          refine ⟨x, kd, od, sd, z, b, ns, y, rfl, tr.up s03, ka3, oo.up s03, so, ?_, q3⟩
          obtain ⟨r, us, e, hr', hl, pl⟩ := wi3.rowG (by rw [hi]; decide)
          exact .inr ⟨r, us, e, hr', hl, pl⟩
        · rw [if_neg hi] at q3
          rw [decide_eq_false (fun e => hi (V.str.inj e))]
          refine iteF ?_
          walk_at "rd"
          refine ⟨x, dx, _, rfl, s03 _ _ hx, x, kd, od, sd, z, .ref b, some ns, rfl, tr.up s03, .inl ⟨b, ns, rfl, ka3, rfl⟩, fun H4 s4 => ⟨_, rfl, ?_⟩⟩
          have q4 : ∀ H', Same H4 H' → _ := fun H' e => q3 H' fun c o a => e _ _ (s4 _ _ a)
          cases ev : valV z.kvs (kk ns) with
          | none =>
            rw [ev] at q4
            simp only [hasV, ev]
            refine ⟨_, rfl, iteT ?_⟩
            exact q4 H4 (Same.refl _)
          | some v0 =>
            rw [ev] at q4
            simp only [hasV, ev]
            refine ⟨_, rfl, iteF ?_⟩
            walk_at "rd"
            have s04 : Same H H4 := fun c o e => s4 _ _ (s03 _ _ e)
            by_cases hd : w = "delete"
            · dsimp only at q4
              rw [if_pos hd] at q4
              rw [decide_eq_true (by rw [hd])]
              exact iteT (q4 H4 (Same.refl _))
            · dsimp only at q4
              rw [if_neg hd] at q4
              rw [decide_eq_false (fun e => hd (V.str.inj e))]
              refine iteF ?_
              walk_at "rd"
              obtain ⟨r, us, rfl, hr', hl, pl⟩ := wi3.rowG hd
              obtain ⟨on, ro⟩ := (ri.up s03) _ _ ev
              rw [ctn_at hr'] at q4
              refine ⟨x, kd, od, sd, z, b, ns, r, us, v0, rfl, tr.up s04, ka3.up s4, oo.up s04, s4 _ _ hr', hl, pl, ev, on, ro.up s4, fun H' e => ?_⟩
              rw [dueU_tup (fun _ _ => s4 _ _) (oo.up s03) ro]
              exact q4 H' e
end
end Spk

set_option Elab.async false
set_option linter.all false
set_option maxRecDepth 100000
set_option maxHeartbeats 4000000
namespace Spk
open PySem L2
local macro_rules | `(tactic| walk_at "rd") => `(tactic| repeat (first
  | with_reducible refine i_seq ?_ | with_reducible refine i_asg ?_ | with_reducible refine i_ret ?_ | with_reducible refine i_ifS ?_ | with_reducible refine i_if ?_
  | with_reducible refine i_for ?_ | with_reducible refine i_iL ?_ | with_reducible refine i_iT ?_ | with_reducible refine i_ckw ?_ | with_reducible refine i_cm ?_ | with_reducible refine And.intro (rfl : V.ref _ = V.ref _) ?_ | with_reducible refine i_rng1 ?_ | with_reducible refine i_bm ?_ | with_reducible refine i_bm0 ?_
  | with_reducible refine i_drop ?_ | with_reducible refine i_next ?_
  | with_reducible refine i_var rfl ?_ | with_reducible refine i_c ?_ | with_reducible refine i_op ?_ | with_reducible refine i_un ?_ | with_reducible refine i_name ?_
  | with_reducible refine i_rI0 ?_ | with_reducible refine i_rU ?_ | with_reducible refine i_rEq rfl ?_ | with_reducible refine i_rNe rfl ?_
  | with_reducible refine i_test ?_ | with_reducible refine i_tB ?_ | with_reducible refine i_and ?_ | with_reducible refine i_or ?_ | with_reducible refine i_not ?_
  | with_reducible refine i_andV ?_ | with_reducible refine i_orV ?_ | with_reducible refine i_notV ?_
  | with_reducible refine i_cons ?_ | with_reducible refine i_nil ?_ | with_reducible refine i_cb ?_ | with_reducible refine i_call ?_ | with_reducible refine i_bl ?_
  | with_reducible refine i_tup ?_ | with_reducible refine i_lst ?_ | with_reducible refine i_par ?_ | with_reducible refine i_gcons ?_ | with_reducible refine i_gnil ?_
  | with_reducible refine And.intro (rfl : V.non = V.non) ?_ | with_reducible refine i_ixT (by assumption) rfl ?_ | with_reducible refine i_ixL (by assumption) rfl ?_ | with_reducible refine i_gtup (by assumption) rfl ?_
  | with_reducible refine i_gsub ?_
  | with_reducible refine Or.inl (Exists.intro _ (And.intro (rfl : [V.int _] = [V.int _]) ?_)) | with_reducible refine Exists.intro _ (And.intro (rfl : [V.int _] = [V.int _]) ?_)
  | with_reducible refine Or.inr (Exists.intro _ (And.intro (rfl : [V.bl _] = [V.bl _]) ?_))
  | with_reducible refine Exists.intro _ (Exists.intro _ (And.intro (rfl : [V.int _, V.int _] = [V.int _, V.int _]) ?_))
  | with_reducible refine Exists.intro _ (Exists.intro _ (And.intro (rfl : [V.ref _] = [V.ref _]) (And.intro (Or.inl (SqL.of (by assumption))) ?_)))
  | with_reducible refine i_rI (show (0 : Int) < _ by assumption) ?_ | with_reducible refine i_rI (show (0 : Int) < _ by decide) ?_
  | with_reducible refine i_rI (pow_ok (Nat.le_of_ble_eq_true rfl) (Nat.le_of_ble_eq_true rfl)) ?_
  | with_reducible refine i_rI (cmulL rfl) ?_))
theorem valV_dropN {k j : List Key} (h : ¬ j = k) : ∀ kvs : List (List Key × V), valV (dropK kvs k) j = valV kvs j
  | [] => rfl
  | p :: r => by
    have ih := valV_dropN h r
    unfold dropK at ih ⊢
    by_cases e : p.1 = k
    · rw [List.filter_cons_of_neg (by simpa using e), ih, valV_neg (fun z => h (z.symm.trans e))]
    · rw [List.filter_cons_of_pos (by simpa using e)]
      by_cases e2 : p.1 = j
      · rw [valV_pos e2, valV_pos e2]
      · rw [valV_neg e2, valV_neg e2, ih]
theorem drop_self {kvs : List (List Key × V)} {k : List Key} : valV (dropK kvs k) k = none := by
  cases e : valV (dropK kvs k) k with
  | none => rfl
  | some v =>
    have m := valV_in e
    obtain ⟨p, hp, ep⟩ := List.mem_map.mp m
    have := (List.mem_filter.mp hp).2
    rw [ep] at this
    simp at this
theorem put_len (kvs : List (List Key × V)) (k : List Key) (v : V) : (putK kvs k v).length ≤ kvs.length + 1 := by
  unfold putK
  split
  · rw [List.length_map]
    omega
  · rw [List.length_append]
    simp
theorem valV_dropF {q : List Key} : ∀ {ps : List (Str × Int)} {os : List (List Key × V)}, (∀ p, p ∈ ps → kp p ≠ q) → valV (ps.foldl (fun l p => dropK l (kp p)) os) q = valV os q
  | [], _, _ => rfl
  | p :: ps, os, h => by
    show valV (ps.foldl _ (dropK os (kp p))) q = _
    rw [valV_dropF fun r hr => h r (List.mem_cons_of_mem _ hr), valV_dropN (fun e => h p List.mem_cons_self e.symm)]
theorem valV_dropIn : ∀ {ps : List (Str × Int)} {os : List (List Key × V)} {q : List Key}, (valV os q = none ∨ ∃ p, p ∈ ps ∧ kp p = q) → valV (ps.foldl (fun l p => dropK l (kp p)) os) q = none
  | [], _, _, h => h.elim id fun ⟨_, h, _⟩ => absurd h List.not_mem_nil
  | p :: ps, os, q, h => by
    show valV (ps.foldl _ (dropK os (kp p))) q = none
    refine valV_dropIn ?_
    by_cases e : kp p = q
    · exact .inl (by rw [← e]; exact drop_self)
    · rcases h with h | ⟨r, hr, e2⟩
      · exact .inl (by rw [valV_dropN (fun z => e z.symm)]; exact h)
      · rcases List.mem_cons.mp hr with rfl | hr
        · exact absurd e2 e
        · exact .inr ⟨r, hr, e2⟩
theorem valV_putF {b : Addr} {q : List Key} : ∀ {ps : List (Str × Int)} {os : List (List Key × V)}, (∀ p, p ∈ ps → kp p ≠ q) → valV (ps.foldl (fun l p => putK l (kp p) (.ref b)) os) q = valV os q
  | [], _, _ => rfl
  | p :: ps, os, h => by
    show valV (ps.foldl _ (putK os (kp p) (.ref b))) q = _
    rw [valV_putF fun r hr => h r (List.mem_cons_of_mem _ hr), valV_put, if_neg (fun e => h p List.mem_cons_self e.symm)]
theorem valV_putIn {b : Addr} : ∀ {ps : List (Str × Int)} {os : List (List Key × V)} {q : List Key}, (valV os q = some (.ref b) ∨ ∃ p, p ∈ ps ∧ kp p = q) → valV (ps.foldl (fun l p => putK l (kp p) (.ref b)) os) q = some (.ref b)
  | [], _, _, h => h.elim id fun ⟨_, h, _⟩ => absurd h List.not_mem_nil
  | p :: ps, os, q, h => by
    show valV (ps.foldl _ (putK os (kp p) (.ref b))) q = some (.ref b)
    refine valV_putIn ?_
    by_cases e : kp p = q
    · exact .inl (by rw [valV_put, if_pos e.symm])
    · rcases h with h | ⟨r, hr, e2⟩
      · exact .inl (by rw [valV_put, if_neg (fun z => e z.symm)]; exact h)
      · rcases List.mem_cons.mp hr with rfl | hr
        · exact absurd e2 e
        · exact .inr ⟨r, hr, e2⟩
theorem dropF_len : ∀ (ps : List (Str × Int)) (os : List (List Key × V)), (ps.foldl (fun l p => dropK l (kp p)) os).length ≤ os.length
  | [], _ => Nat.le_refl _
  | p :: ps, os => Nat.le_trans (dropF_len ps (dropK os (kp p))) (by unfold dropK; exact List.length_filter_le _ _)
theorem putF_len {b : Addr} : ∀ (ps : List (Str × Int)) (os : List (List Key × V)), (ps.foldl (fun l p => putK l (kp p) (.ref b)) os).length ≤ os.length + ps.length
  | [], _ => Nat.le_refl _
  | p :: ps, os => by
    have h := putF_len (b := b) ps (putK os (kp p) (.ref b))
    have := put_len os (kp p) (.ref b)
    show (ps.foldl _ (putK os (kp p) (.ref b))).length ≤ _
    rw [List.length_cons]
    omega
theorem osAft_len (os : List (List Key × V)) (po pn : List (Str × Int)) (b : Addr) : (osAft os po pn b).length ≤ os.length + pn.length := Nat.le_trans (putF_len pn _) (Nat.add_le_add_right (dropF_len po os) _)
/-- but for these two all is as it was -/
def Off2 (d e : Addr) (H H' : Hp) : Prop := ∀ c o, c ≠ d → c ≠ e → H c = some o → H' c = some o
section
variable {P : Program} {w : World} {K : PySem.W.Frag} {mg : Str → Option Value} {base : Heap} {C fI p g U D fT fF CC fX : Addr} {mc : Value} {hI hK hC mI mU mD mC' mW mO mS fL fC : Addr}
abbrev s_Truth_write : Stmt := inClass (top 30) 5
theorem sc_Truth_write : FnScope ["self", "key", "old", "new", "place"] ["self", "key", "old", "new"] (defScope s_Truth_write) := ⟨rfl, rfl, rfl, by decide +kernel, rfl, by decide +kernel, by decide +kernel⟩
/-- the rows behind a write -/
def wrote (kvs : List (List Key × V)) (k : List Key) (v : V) : List (List Key × V) := if v = .non then dropK kvs k else putK kvs k v
def sp_write (U C D : Addr) : Sp := fun vs H Q _ => ∃ x kd od sd z b ns o v, vs = [.ref x, .ref b, o, v] ∧ Tru U C D H x kd od sd z ∧ KeyAt H b ns z.t.ks.length ∧ RowG H z.t o ∧ RowG H z.t v ∧ (v = .non → (valV z.kvs (kk ns)).isSome = true) ∧ (∀ p, p ∈ places z.t (ctn H o) → (valV z.os (kp p)).isSome = true) ∧ z.kvs.length ≤ 1000 ∧ z.os.length ≤ 5000 ∧
  ∀ H', Off2 kd od H H' → H' kd = some (.dT (wrote z.kvs (kk ns) v)) → H' od = some (.dT (osAft z.os (places z.t (ctn H o)) (places z.t (ctn H v)) b)) → Q .non H'
theorem ok_write {f fP : Addr} {fd fdP : FuncData} (F : Fun K "write" "Truth.write" s_Truth_write f fd) (TU : ClsU K mg U fT)
    (F_unique_places : Fun K "unique_places" "unique_places" s_unique_places fP fdP) (B_unique_places : Binds K fdP ["table", "row"] []) (g_unique_places : mg "unique_places" = some (.ref fP)) (G_unique_places : FnOk P w K mg base CX0 2 fP fdP ["table", "row"] (sp_places C)) :
    FnOk P w K mg base CX0 3 f fd ["self", "key", "old", "new"] (sp_write U C D) := by
  refine F.ok sc_Truth_write (fun vs H Q E h => ?_) (fun cdv A outer s H vs Q E hr h => ?_)
  · obtain ⟨x, kd, od, sd, z, b, ns, o, v, rfl, _⟩ := h
    rfl
  · obtain ⟨x, kd, od, sd, z, b, ns, o, v, rfl, tr, ka, ro, rv, hv, ho, kz, oz, q⟩ := h
    refine ⟨_, (pss_cons (ps_for PassesOwn.never rfl (pi_list (pe_call G_unique_places (hr.mono (by decide)) rfl g_unique_places F_unique_places.kp B_unique_places .nil pass0 (pa_cons (pe_fld (pv 0) rfl) (pa_cons (pv 2) pa_nil)))) (pg_name (i := 4) sc_Truth_write.nd rfl (Or.inl rfl))
 (pss_one (ps_ddelT (Nat.lt_of_le_of_lt (Nat.add_le_add_left (by decide : 1 ≤ 64) _) hr.units) (pe_fld (pv 0) rfl) (pv 4))))
 (pss_cons (ps_for PassesOwn.never rfl (pi_list (pe_call G_unique_places (hr.mono (by decide)) rfl g_unique_places F_unique_places.kp B_unique_places .nil pass0 (pa_cons (pe_fld (pv 0) rfl) (pa_cons (pv 3) pa_nil)))) (pg_name (i := 4) sc_Truth_write.nd rfl (Or.inl rfl))
 (pss_one (ps_dput (Nat.lt_of_le_of_lt (Nat.add_le_add_left (by decide : 1 ≤ 64) _) hr.units) (pe_fld (pv 0) rfl) (pv 4) (pv 1) rfl)))
 (pss_one (ps_if (pt_cmpR op_isN (pv 3) pe_non (nomark _))
 (pss_one (ps_ddelT (Nat.lt_of_le_of_lt (Nat.add_le_add_left (by decide : 1 ≤ 64) _) hr.units) (pe_fld (pv 0) rfl) (pv 1)))
 (pss_one (ps_dput (Nat.lt_of_le_of_lt (Nat.add_le_add_left (by decide : 1 ≤ 64) _) hr.units) (pe_fld (pv 0) rfl) (pv 1) (pv 3) rfl)))))), ?_⟩
    obtain ⟨dx, tx, fx, hx, ht, hf⟩ := tr.ex
    have sp := tr.spot
    have xo : x ≠ od := fun e => by
      have h := tr.ho
      rw [← e, hx] at h
      cases h
    have bo : b ≠ od := fun e => by
      have h := tr.ho
      rw [← e, ka.at_] at h
      cases h
    have uz := tr.ok.uz
    walk_at "rd"
    refine ⟨_, rfl, x, U, dx, _, _, rfl, hx, TU.cl, TU.nT, lt_table, ?_⟩
    walk_at "rd"
    refine ⟨tx, o, z.t, rfl, ht, tr.ok, ro, fun l qs H1 s1 h1 p1 => ?_⟩
    have pz := pls_len z.t.cs (ctn H o) z.t.us
    have pnd := pls_nd (cs := z.t.cs) (us := ctn H o) tr.ok.un
    refine ⟨l, rfl, ⟨_, SqL.of h1⟩, for_list (K := K) (a := l) (xs := qs.map V.ref) (fun m σ H' => ∃ y4, σ = [some (.ref x), some (.ref b), some o, some v, y4] ∧ Off od H1 H' ∧ H' od = some (.dT (((places z.t (ctn H o)).take m).foldl (fun l p => dropK l (kp p)) z.os))) ⟨_, rfl, fun c o' _ e => e, s1 _ _ tr.ho⟩ ?_ ?_ ?_⟩
    · rintro m σ H' _ ⟨_, _, s2, _⟩
      refine SqL.of (s2 _ _ (fun e => ?_) h1)
      have h := s1 _ _ tr.ho
      rw [← e, h1] at h
      cases h
    · rintro m y σ H2 hy ⟨y4, rfl, s2, h2⟩
      rw [List.getElem?_map] at hy
      obtain ⟨q0, hq0, rfl⟩ := Option.map_eq_some_iff.mp hy
      obtain ⟨p, ep, hqp⟩ := pair_at p1 hq0
      walk_at "rd"
      unfold sDDelT
      refine ⟨_, rfl, x, U, dx, _, _, rfl, s2 _ _ xo (s1 _ _ hx), TU.cl, TU.nO, lt_owners, ?_⟩
      walk_at "rd"
      have q0o : q0 ≠ od := fun e => by
        have h := s1 _ _ tr.ho
        rw [← e, hqp] at h
        cases h
      have np : ∀ p', p' ∈ (places z.t (ctn H o)).take m → kp p' ≠ kp p := fun p' hp' e => by
        have e2 := kp_inj e
        subst e2
        obtain ⟨k, hk, ek⟩ := List.getElem_of_mem hp'
        rw [List.length_take] at hk
        rw [List.getElem_take] at ek
        have hm : m < (places z.t (ctn H o)).length := (List.getElem?_eq_some_iff.mp ep).1
        have em : (places z.t (ctn H o))[m] = p' := (List.getElem?_eq_some_iff.mp ep).2
        have := (List.getElem_inj pnd (h₀ := by omega) (h₁ := hm)).mp (ek.trans em.symm)
        omega
      refine ⟨od, _, kp p, q0, rfl, h2, rfl, by rw [kp_v]; exact s2 _ _ q0o hqp, by rw [valV_dropF np]; exact ho p (List.mem_of_getElem? ep), _, rfl, fun c o' n e => ?_, ?_⟩
      · rw [upd_ne n]
        exact s2 _ _ n e
      · rw [upd_same, take_snoc ep, List.foldl_append]
        rfl
    rintro σ H2 ⟨y4, rfl, s2, h2⟩
    rw [List.length_map, Paired.length p1, List.take_length] at h2
    have o02 : Off od H H2 := fun c o' n e => s2 _ _ n (s1 _ _ e)
    have tup2 : ∀ a us, H a = some (.tup us) → H2 a = some (.tup us) := fun a us e => o02 _ _ (fun z' => by
      rw [z', tr.ho] at e
      cases e) e
    have o2 : OffT x kd od sd H H2 := fun c o' _ _ n _ e => o02 _ _ n e
    have ht2 := ht.offT o2 sp
    walk_at "rd"
    refine ⟨_, rfl, x, U, dx, _, _, rfl, o02 _ _ xo hx, TU.cl, TU.nT, lt_table, ?_⟩
    walk_at "rd"
    refine ⟨tx, v, z.t, rfl, ht2, tr.ok, rv.tup tup2, fun l2 qs2 H3 s3 h3 p3 => ?_⟩
    rw [rv.ctn tup2] at p3
    have pz2 : (places z.t (ctn H v)).length ≤ z.t.us.length := pls_len z.t.cs (ctn H v) z.t.us
    have h3o := s3 _ _ h2
    have dl := dropF_len (places z.t (ctn H o)) z.os
    refine ⟨l2, rfl, ⟨_, SqL.of h3⟩, for_list (K := K) (a := l2) (xs := qs2.map V.ref) (fun m σ H' => ∃ y4, σ = [some (.ref x), some (.ref b), some o, some v, y4] ∧ Off od H3 H' ∧ H' od = some (.dT (((places z.t (ctn H v)).take m).foldl (fun l p => putK l (kp p) (.ref b)) ((places z.t (ctn H o)).foldl (fun l p => dropK l (kp p)) z.os)))) ⟨_, rfl, fun c o' _ e => e, h3o⟩ ?_ ?_ ?_⟩
    · rintro m σ H' _ ⟨_, _, s4, _⟩
      refine SqL.of (s4 _ _ (fun e => ?_) h3)
      rw [← e, h3] at h3o
      cases h3o
    · rintro m y σ H4 hy ⟨y4, rfl, s4, h4⟩
      rw [List.getElem?_map] at hy
      obtain ⟨q0, hq0, rfl⟩ := Option.map_eq_some_iff.mp hy
      obtain ⟨p, ep, hqp⟩ := pair_at p3 hq0
      walk_at "rd"
      unfold sDPut
      walk_at "rd"
      refine ⟨_, rfl, x, U, dx, _, _, rfl, s4 _ _ xo (s3 _ _ (o02 _ _ xo hx)), TU.cl, TU.nO, lt_owners, ?_⟩
      walk_at "rd"
      have q0o : q0 ≠ od := fun e => by
        rw [← e, hqp] at h3o
        cases h3o
      have pl := putF_len (b := b) ((places z.t (ctn H v)).take m) ((places z.t (ctn H o)).foldl (fun l p => dropK l (kp p)) z.os)
      rw [List.length_take] at pl
      have pl2 : (((places z.t (ctn H v)).take m).foldl (fun l p => putK l (kp p) (.ref b)) ((places z.t (ctn H o)).foldl (fun l p => dropK l (kp p)) z.os)).length ≤ 6000 := by
        have := Nat.min_le_right m (places z.t (ctn H v)).length
        omega
      refine ⟨od, _, rfl, DPut.t (k := kp p) h4 (by rw [kp_v]; exact s4 _ _ q0o hqp) (size_lt (Nat.le_trans pl2 (by decide))), _, rfl, fun c o' n e => ?_, ?_⟩
      · rw [upd_ne n]
        exact s4 _ _ n e
      · rw [upd_same, take_snoc ep, List.foldl_append]
        rfl
    rintro σ H4 ⟨y4', rfl, s4, h4⟩
    rw [List.length_map, Paired.length p3, List.take_length] at h4
    have o04 : Off od H H4 := fun c o' n e => s4 _ _ n (s3 _ _ (o02 _ _ n e))
    have hk4 := o04 _ _ tr.n1 tr.hk
    have hb4 := o04 _ _ bo ka.at_
    walk_at "rd"
    rcases rv with rfl | ⟨r, us, rfl, _⟩
    · refine iteT ?_
      unfold sDDelT
      walk_at "rd"
      refine ⟨_, rfl, x, U, dx, _, _, rfl, o04 _ _ xo hx, TU.cl, TU.nK, lt_kept, ?_⟩
      walk_at "rd"
      refine ⟨kd, _, kk ns, b, rfl, hk4, rfl, by rw [kk_v]; exact hb4, hv rfl, ?_⟩
      refine q _ (fun c o' n n2 e => ?_) ?_ ?_
      · rw [upd_ne n]
        exact o04 _ _ n2 e
      · rw [upd_same]
        rfl
      · rw [upd_ne tr.n1.symm]
        exact h4
    · refine iteF ?_
      unfold sDPut
      walk_at "rd"
      refine ⟨_, rfl, x, U, dx, _, _, rfl, o04 _ _ xo hx, TU.cl, TU.nK, lt_kept, ?_⟩
      walk_at "rd"
      refine ⟨kd, _, rfl, DPut.t hk4 (by rw [kk_v]; exact hb4) (size_lt (by omega)), ?_⟩
      refine q _ (fun c o' n n2 e => ?_) ?_ ?_
      · rw [upd_ne n]
        exact o04 _ _ n2 e
      · rw [upd_same]
        rfl
      · rw [upd_ne tr.n1.symm]
        exact h4
end
end Spk

set_option Elab.async false
set_option linter.all false
set_option maxRecDepth 100000
set_option maxHeartbeats 4000000
namespace Spk
open PySem L2
local macro_rules | `(tactic| walk_at "rd") => `(tactic| repeat (first
  | with_reducible refine i_seq ?_ | with_reducible refine i_asg ?_ | with_reducible refine i_ret ?_ | with_reducible refine i_ifS ?_ | with_reducible refine i_if ?_
  | with_reducible refine i_for ?_ | with_reducible refine i_iL ?_ | with_reducible refine i_iT ?_ | with_reducible refine i_ckw ?_ | with_reducible refine i_cm ?_ | with_reducible refine And.intro (rfl : V.ref _ = V.ref _) ?_ | with_reducible refine i_rng1 ?_ | with_reducible refine i_bm ?_ | with_reducible refine i_bm0 ?_
  | with_reducible refine i_drop ?_ | with_reducible refine i_next ?_
  | with_reducible refine i_var rfl ?_ | with_reducible refine i_c ?_ | with_reducible refine i_op ?_ | with_reducible refine i_un ?_ | with_reducible refine i_name ?_
  | with_reducible refine i_rI0 ?_ | with_reducible refine i_rU ?_ | with_reducible refine i_rEq rfl ?_ | with_reducible refine i_rNe rfl ?_
  | with_reducible refine i_test ?_ | with_reducible refine i_tB ?_ | with_reducible refine i_and ?_ | with_reducible refine i_or ?_ | with_reducible refine i_not ?_
  | with_reducible refine i_andV ?_ | with_reducible refine i_orV ?_ | with_reducible refine i_notV ?_
  | with_reducible refine i_cons ?_ | with_reducible refine i_nil ?_ | with_reducible refine i_cb ?_ | with_reducible refine i_call ?_ | with_reducible refine i_bl ?_
  | with_reducible refine i_tup ?_ | with_reducible refine i_lst ?_ | with_reducible refine i_par ?_ | with_reducible refine i_gcons ?_ | with_reducible refine i_gnil ?_
  | with_reducible refine And.intro (rfl : V.non = V.non) ?_ | with_reducible refine i_ixT (by assumption) rfl ?_ | with_reducible refine i_ixL (by assumption) rfl ?_ | with_reducible refine i_gtup (by assumption) rfl ?_
  | with_reducible refine i_gsub ?_
  | with_reducible refine Or.inl (Exists.intro _ (And.intro (rfl : [V.int _] = [V.int _]) ?_)) | with_reducible refine Exists.intro _ (And.intro (rfl : [V.int _] = [V.int _]) ?_)
  | with_reducible refine Or.inr (Exists.intro _ (And.intro (rfl : [V.bl _] = [V.bl _]) ?_))
  | with_reducible refine Exists.intro _ (Exists.intro _ (And.intro (rfl : [V.int _, V.int _] = [V.int _, V.int _]) ?_))
  | with_reducible refine Exists.intro _ (Exists.intro _ (And.intro (rfl : [V.ref _] = [V.ref _]) (And.intro (Or.inl (SqL.of (by assumption))) ?_)))
  | with_reducible refine i_rI (show (0 : Int) < _ by assumption) ?_ | with_reducible refine i_rI (show (0 : Int) < _ by decide) ?_
  | with_reducible refine i_rI (pow_ok (Nat.le_of_ble_eq_true rfl) (Nat.le_of_ble_eq_true rfl)) ?_
  | with_reducible refine i_rI (cmulL rfl) ?_))
section
variable {P : Program} {w : World} {K : PySem.W.Frag} {mg : Str → Option Value} {base : Heap} {C fI p g U D fT fF CC fX : Addr} {mc : Value} {hI hK hC mI mU mD mC' mW mO mS fL fC : Addr}
abbrev s_Truth_change : Stmt := inClass (top 30) 4
theorem sc_Truth_change : FnScope ["self", "word", "thing", "reason", "new", "key", "old"] ["self", "word", "thing"] (defScope s_Truth_change) := ⟨rfl, rfl, rfl, by decide +kernel, rfl, by decide +kernel, by decide +kernel⟩
/-- what a change asks of its surroundings, and what is so behind it -/
structure Chg (U C D CC : Addr) (H : Hp) (Q : VK) (E : XK) (x kd od sd : Addr) (z : Tw) (w : Str) (y : V) (ns : List Int) : Prop where
  tr : Tru U C D H x kd od sd z
  oo : OsOk H z
  so : StOk z
  wi : Wish H z.t w y ns
  ri : RowsG H z
  ow : ∀ p, p ∈ places z.t (ctn H ((valV z.kvs (kk ns)).getD .non)) → (valV z.os (kp p)).isSome = true
  kz : z.kvs.length ≤ 1000
  sz : z.sts.length ≤ 1000
  oz : z.os.length ≤ 5000
  no : ∀ rs, dueW H z w ns y = some rs → Told CC H E rs
  yes : dueW H z w ns y = none → ∀ p b H', OffT x kd od sd H H' → Tru U C D H' x kd od sd (chg H z w ns y b) → KeyAt H' b ns z.t.ks.length → H' p = some (.tup [.ref b, (valV z.kvs (kk ns)).getD .non, if w = "delete" then .non else y]) → Q (.ref p) H'
theorem Wish.newG {H : Hp} {t : Tb} {w : Str} {y : V} {ns : List Int} (h : Wish H t w y ns) : RowG H t (if w = "delete" then .non else y) := by
  by_cases hw : w = "delete"
  · rw [if_pos hw]
    exact .inl rfl
  · rw [if_neg hw]
    exact .inr (h.rowG hw)
theorem chg_tup {H H' : Hp} {z : Tw} {w : Str} {ns : List Int} {y : V} {b : Addr} (e : ∀ a us, H a = some (.tup us) → H' a = some (.tup us)) (ri : RowsG H z) (wi : Wish H z.t w y ns) : chg H' z w ns y b = chg H z w ns y b := by
  unfold chg
  rw [(ri.rowG (kk ns)).ctn e, wi.newG.ctn e]
theorem Chg.up {H0 H : Hp} {Q : VK} {E : XK} {x kd od sd : Addr} {z : Tw} {w : Str} {y : V} {ns : List Int} (s : Same H0 H) (h : Chg U C D CC H0 Q E x kd od sd z w y ns) : Chg U C D CC H Q E x kd od sd z w y ns := by
  have t : ∀ a us, H0 a = some (.tup us) → H a = some (.tup us) := fun _ _ => s _ _
  refine ⟨h.tr.up s, h.oo.up s, h.so, h.wi.up s, h.ri.up s, ?_, h.kz, h.sz, h.oz, fun rs d => ?_, fun d p b H' o tr => ?_⟩
  · rw [(h.ri.rowG (kk ns)).ctn t]
    exact h.ow
  · rw [dueW_tup t h.oo h.ri h.wi] at d
    exact told_up s (h.no rs d)
  · rw [dueW_tup t h.oo h.ri h.wi] at d
    rw [chg_tup t h.ri h.wi] at tr
    exact h.yes d p b H' ((Same.offT s).trans o) tr
/-- behind the write: the count and the stamp -/
theorem chg_end {H H4 : Hp} {Q : VK} {E : XK} {x kd od sd dx tx fx b : Addr} {z : Tw} {w : Str} {y v : V} {ns : List Int} (c : Chg U C D CC H Q E x kd od sd z w y ns) (dn : dueW H z w ns y = none)
    (hx : H x = some (.ins U dx (tflds tx fx kd od sd z.n))) (ht : Tab C H tx z.t) (hf : Fi.Fil D H fx z.r) (ka : KeyAt H b ns z.t.ks.length) (off : Off2 kd od H H4) (hk4 : H4 kd = some (.dT (wrote z.kvs (kk ns) v))) (ho4 : H4 od = some (.dT (osAft z.os (places z.t (ctn H ((valV z.kvs (kk ns)).getD .non))) (places z.t (ctn H v)) b))) (ev : v = if w = "delete" then .non else y) (wv : w = "delete" ∨ y ≠ .non) :
    ∃ H5 H6, upd H4 x (.ins U dx (putF "changes" (.int ((z.n : Int) + 1)) (tflds tx fx kd od sd z.n))) = H5 ∧ H4 x = some (.ins U dx (tflds tx fx kd od sd z.n)) ∧ H5 x = some (.ins U dx (tflds tx fx kd od sd (z.n + 1))) ∧ H5 sd = some (.dT z.sts) ∧ H5 b = some (.tup (ns.map V.int)) ∧
      upd H5 sd (.dT (putK z.sts (kk ns) (.int ((z.n + 1 : Nat) : Int)))) = H6 ∧ ∀ p H', Same H6 H' → H' p = some (.tup [.ref b, (valV z.kvs (kk ns)).getD .non, v]) → Q (.ref p) H' := by
  have tr := c.tr
  have sp := tr.spot
  have xk : x ≠ kd := fun e => by
    rw [e, tr.hk] at hx
    cases hx
  have xs : x ≠ sd := fun e => by
    rw [e, tr.hs] at hx
    cases hx
  have xo : x ≠ od := fun e => by
    rw [e, tr.ho] at hx
    cases hx
  have bx : b ≠ x := fun e => by
    have h := ka.at_
    rw [e, hx] at h
    cases h
  have bk : b ≠ kd := fun e => by
    have h := ka.at_
    rw [e, tr.hk] at h
    cases h
  have bo : b ≠ od := fun e => by
    have h := ka.at_
    rw [e, tr.ho] at h
    cases h
  have bs : b ≠ sd := fun e => by
    have h := ka.at_
    rw [e, tr.hs] at h
    cases h
  have h4x := off _ _ xk xo hx
  have e5 : putF "changes" (.int ((z.n : Int) + 1)) (tflds tx fx kd od sd z.n) = tflds tx fx kd od sd (z.n + 1) := rfl
  have h5s : upd H4 x (.ins U dx (putF "changes" (.int ((z.n : Int) + 1)) (tflds tx fx kd od sd z.n))) sd = some (.dT z.sts) := by
    rw [upd_ne xs.symm]
    exact off _ _ tr.n2.symm tr.n3.symm tr.hs
  have h5b : upd H4 x (.ins U dx (putF "changes" (.int ((z.n : Int) + 1)) (tflds tx fx kd od sd z.n))) b = some (.tup (ns.map V.int)) := by
    rw [upd_ne bx]
    exact off _ _ bk bo ka.at_
  refine ⟨_, _, rfl, h4x, by rw [upd_same, e5], h5s, h5b, rfl, fun p H' s' hp => ?_⟩
  have o6 : OffT x kd od sd H H' := fun a o n1 n2 n3 n4 e => s' _ _ (by
    rw [upd_ne n4, upd_ne n1]
    exact off _ _ n2 n3 e)
  have chk : (chg H z w ns y b).kvs = wrote z.kvs (kk ns) v := by
    unfold chg wrote
    dsimp only
    rw [ev]
    by_cases hw : w = "delete"
    · rw [if_pos hw, if_pos hw, if_pos rfl]
    · rw [if_neg hw, if_neg hw, if_neg (wv.resolve_left hw)]
  refine c.yes dn p b H' o6 ⟨⟨dx, tx, fx, s' _ _ (by rw [upd_ne xs, upd_same, e5]; rfl), ht.offT o6 sp, Fil.offT o6 sp hf⟩, ?_, ?_, s' _ _ (by rw [upd_same]; rfl), tr.n1, tr.n2, tr.n3, tr.ok, tr.rc, tr.dp⟩ ⟨s' _ _ (by rw [upd_ne bs]; exact h5b), ka.z, ka.tiny⟩ (by rw [hp, ev])
  · rw [chk]
    exact s' _ _ (by rw [upd_ne tr.n2, upd_ne xk.symm]; exact hk4)
  · refine s' _ _ ?_
    rw [upd_ne tr.n3, upd_ne xo.symm, ho4, ev]
    rfl
def sp_change (U C D CC : Addr) : Sp := fun vs H Q E => ∃ x kd od sd z w y ns, vs = [.ref x, .str w, y] ∧ Chg U C D CC H Q E x kd od sd z w y ns
theorem dget1_at {H : Hp} {d b : Addr} {kvs : List (List Key × V)} {ns : List Int} {m : Nat} (hd : H d = some (.dT kvs)) (ka : KeyAt H b ns m) : ∃ o, DGet H d (.ref b) o ∧ o = valV kvs (kk ns) := ⟨_, ka.get hd, rfl⟩
theorem due_there {H : Hp} {z : Tw} {ns : List Int} {y : V} (h : dueW H z "delete" ns y = none) : (valV z.kvs (kk ns)).isSome = true := by
  unfold dueW at h
  split at h
  · cases h
  · rw [if_neg (by decide)] at h
    split at h
    · cases h
    · rename_i o e
      rw [e]
      rfl
theorem ok_change {f fV fdX : Addr} {fd fdV fdx : FuncData} (F : Fun K "change" "Truth.change" s_Truth_change f fd) (T : ClsT K mg C fI mc p g) (CN : ClsN K C hI hK hC) (R_key_of : FnR P w K mg base CX0 2 hK (mY C)) (TU : ClsU K mg U fT) (UN : ClsUN K U mI mU mD mC' mW mO mS fL fC)
    (XC : XCt K mg CC fX) (B_cinit : Binds K fdx ["self", "reason"] []) (G_cinit : FnOk P w K mg base CX0 1 fX fdx ["self", "reason"] (sp_iinit CC))
    (F_why_not : Fun K "why_not" "why_not" s_why_not fV fdV) (B_why_not : Binds K fdV ["truth", "word", "thing"] []) (g_why_not : mg "why_not" = some (.ref fV)) (G_why_not : FnOk P w K mg base CX0 24 fV fdV ["truth", "word", "thing"] (sp_why U C D))
    (RU_write : FnR P w K mg base CX0 3 mW (fun vs H Q E => sp_write U C D (vs ++ []) H Q E)) :
    FnOk P w K mg base (L2.CX P w) 25 f fd ["self", "word", "thing"] (sp_change U C D CC) := by
  refine F.okX sc_Truth_change (fun vs H Q E h => ?_) (fun cdv A outer s H vs Q E hr h => ?_)
  · obtain ⟨x, kd, od, sd, z, w, y, ns, rfl, _⟩ := h
    rfl
  · obtain ⟨x, kd, od, sd, z, w, y, ns, rfl, c0⟩ := h
    refine ⟨_, (pss_cons (ps_set (i := 3) sc_Truth_change.nd rfl (Or.inl rfl) (pe_call G_why_not (hr.mono (by decide)) rfl g_why_not F_why_not.kp B_why_not .nil pass0 (pa_cons (pv 0) (pa_cons (pv 1) (pa_cons (pv 2) pa_nil)))))
 (pss_cons (ps_if (pt_cmpR op_notN (pv 3) pe_non (nomark _))
 (pss_one (ps_raise rfl (takes_of rfl rfl rfl rfl) (pmk_oex XC.o XC.iC XC.tI G_cinit (hr.mono (by decide)) B_cinit .nil pass0 rfl XC.g (pa_cons (pv 3) pa_nil))))
 pss_nil)
 (pss_cons (ps_set (i := 4) sc_Truth_change.nd rfl (Or.inl rfl) (pe_ifExp (pt_cmpR op_eq (pv 1) pe_str (nomark _)) pe_non (pv 2)))
 (pss_cons (ps_set (i := 5) sc_Truth_change.nd rfl (Or.inl rfl) (pe_ifExp (pt_cmpR op_eq (pv 1) pe_str (nomark _)) (pv 2) (pe_methR (pe_fld (pv 0) rfl) T.cl CN.key_of R_key_of (hr.mono (by decide)) pass0 (pa_cons (pv 2) pa_nil))))
 (pss_cons (ps_set (i := 6) sc_Truth_change.nd rfl (Or.inl rfl) (pe_dget1 (Nat.lt_of_le_of_lt (Nat.add_le_add_left (by decide : 1 ≤ 64) _) hr.units) (pe_fld (pv 0) rfl) (pv 5) ⟨rfl, rfl, rfl, rfl⟩))
 (pss_cons (ps_expr (pe_methR (pv 0) TU.cl UN.write RU_write (hr.mono (by decide)) pass0 (pa_cons (pv 5) (pa_cons (pv 6) (pa_cons (pv 4) pa_nil)))))
 (pss_cons (ps_fldaug (pv 0) pe_int in_add)
 (pss_cons (ps_dput (Nat.lt_of_le_of_lt (Nat.add_le_add_left (by decide : 1 ≤ 64) _) hr.units) (pe_fld (pv 0) rfl) (pv 5) (pe_fld (pv 0) rfl) rfl)
 (pss_one (ps_ret (pe_tup (pa_cons (pv 5) (pa_cons (pv 6) (pa_cons (pv 4) pa_nil)))))))))))))), ?_⟩
    walk_at "rd"
    refine ⟨x, kd, od, sd, z, w, y, ns, rfl, c0.tr, c0.oo, c0.so, c0.wi, c0.ri, fun H1 s1 => ?_⟩
    have c := c0.up s1
    rw [← dueW_tup (fun _ _ => s1 _ _) c0.oo c0.ri c0.wi]
    walk_at "rd"
    cases dn : dueW H1 z w ns y with
    | some rs =>
      refine iteT ?_
      unfold tMkO
      walk_at "rd"
      refine ⟨by show 1 ≤ 1000; decide, fun a ha => ⟨a, .str rs, rfl, upd_same, fun dx hdx hne => ⟨rfl, dx, [("reason", .str rs)], upd_same, by rw [upd_ne hne]; exact upd_same, ?_, ?_⟩⟩⟩
      · rw [upd_ne hne] at hdx
        exact hdx
      · refine c.no rs dn dx _ (fun b o e => ?_) upd_same
        have n1 : b ≠ a := ne_of_none e ha
        have n2 : b ≠ dx := fun z => by
          rw [z] at e
          rw [upd_ne hne, e] at hdx
          cases hdx
        rw [upd_ne n2]
        unfold del
        rw [if_neg n1, upd_ne n1, upd_ne n2, upd_ne n1]
        exact e
    | none =>
      refine iteF ?_
      walk_at "rd"
      obtain ⟨dx, tx, fx, hx, ht, hf⟩ := c.tr.ex
      rcases c.wi with ⟨rfl, b, rfl, ka⟩ | ⟨hw, r, us, rfl, hr', ro, pk, tn, nl⟩
      · rw [decide_eq_true rfl]
        refine iteT ?_
        walk_at "rd"
        refine iteT ?_
        walk_at "rd"
        unfold tDGet1
        walk_at "rd"
        refine ⟨_, rfl, x, U, dx, _, _, rfl, hx, TU.cl, TU.nK, lt_kept, ?_⟩
        refine ⟨kd, rfl, .inr ⟨_, .inl c.tr.hk⟩, ?_⟩
        walk_at "rd"
        refine ⟨_, ka.get c.tr.hk, ?_⟩
        walk_at "rd"
        refine i_methR ?_
        walk_at "rd"
        refine ⟨x, dx, _, rfl, hx, lt_meth (.inr (.inr (.inr (.inr (.inl rfl))))), ?_⟩
        walk_at "rd"
        refine ⟨x, kd, od, sd, z, b, ns, _, .non, rfl, c.tr, ka, c.ri.rowG _, .inl rfl, fun _ => due_there dn, c.ow, c.kz, c.oz, fun H4 off hk4 ho4 => ?_⟩
        obtain ⟨H5, H6, e5, h4x, h5x, h5s, h5b, e6, fin⟩ := chg_end (v := .non) c dn hx ht hf ka off hk4 ho4 (by rw [if_pos rfl]) (.inl rfl)
        walk_at "rd"
        unfold sFldAug
        walk_at "rd"
        refine ⟨x, U, dx, _, _, rfl, h4x, TU.cl, TU.nC, lt_changes, ?_⟩
        walk_at "rd"
        refine ⟨_, _, rfl, rfl, dx, _, h4x, (by show 6 < 1000; decide), ?_⟩
        rw [e5]
        unfold sDPut
        walk_at "rd"
        refine ⟨_, rfl, x, U, dx, _, _, rfl, h5x, TU.cl, TU.nC, lt_changes, ?_⟩
        walk_at "rd"
        refine ⟨_, rfl, x, U, dx, _, _, rfl, h5x, TU.cl, TU.nS, lt_stamps, ?_⟩
        walk_at "rd"
        refine ⟨sd, _, rfl, DPut.t (k := kk ns) h5s (by rw [kk_v]; exact h5b) (size_lt (by have := c.sz; omega)), ?_⟩
        rw [e6]
        walk_at "rd"
        refine ⟨size_of (Nat.le_of_ble_eq_true rfl), fun p' hp' => ?_⟩
        obtain ⟨H7, e7, s7, h7⟩ := new_heap (o := .tup [.ref b, (valV z.kvs (kk ns)).getD .non, .non]) hp'
        rw [e7]
        exact fin p' H7 s7 h7
      · have wd : ¬ w = "delete" := fun e1 => by
          rcases hw with e2 | e2 <;> rw [e2] at e1 <;> exact absurd e1 (by decide)
        have wn : ¬ (V.str w = V.str "delete") := fun e => wd (V.str.inj e)
        rw [decide_eq_false wn]
        refine iteF ?_
        walk_at "rd"
        rw [decide_eq_false wn]
        refine iteF ?_
        walk_at "rd"
        obtain ⟨dt, tc, tk, tf, tu, htx, hc, hk, hf0, hu0⟩ := id ht
        have ul : us.length = z.t.cs.length := Paired.length ro
        have kz := c.tr.ok.kz
        refine i_methR ?_
        walk_at "rd"
        refine ⟨_, rfl, x, U, dx, _, _, rfl, hx, TU.cl, TU.nT, lt_table, ?_⟩
        refine ⟨tx, dt, _, rfl, htx, lk_meth (.inr (.inr rfl)), ?_⟩
        walk_at "rd"
        refine ⟨tx, r, z.t, us, rfl, ht, hr', ul, by omega, c.tr.ok.sub, fun b H2 s2 h2 => ?_⟩
        rw [pk] at h2
        have ka : KeyAt H2 b ns z.t.ks.length := ⟨h2, nl, tn⟩
        have c2 := c.up s2
        have hx2 := s2 _ _ hx
        walk_at "rd"
        unfold tDGet1
        walk_at "rd"
        refine ⟨_, rfl, x, U, dx, _, _, rfl, hx2, TU.cl, TU.nK, lt_kept, ?_⟩
        refine ⟨kd, rfl, .inr ⟨_, .inl c2.tr.hk⟩, ?_⟩
        walk_at "rd"
        refine ⟨_, ka.get c2.tr.hk, ?_⟩
        walk_at "rd"
        refine i_methR ?_
        walk_at "rd"
        refine ⟨x, dx, _, rfl, hx2, lt_meth (.inr (.inr (.inr (.inr (.inl rfl))))), ?_⟩
        walk_at "rd"
        refine ⟨x, kd, od, sd, z, b, ns, _, .ref r, rfl, c2.tr, ka, c2.ri.rowG _, .inr ⟨r, us, rfl, s2 _ _ hr', ul, row_plain ro⟩, (fun e => nomatch e), c2.ow, c2.kz, c2.oz, fun H4 off hk4 ho4 => ?_⟩
        obtain ⟨H5, H6, e5, h4x, h5x, h5s, h5b, e6, fin⟩ := chg_end (v := .ref r) c2 (by rw [dueW_tup (fun _ _ => s2 _ _) c.oo c.ri c.wi]; exact dn) hx2 (ht.up s2) (hf.up s2) ka off hk4 ho4 (by rw [if_neg wd]) (.inr fun e => nomatch e)
        walk_at "rd"
        unfold sFldAug
        walk_at "rd"
        refine ⟨x, U, dx, _, _, rfl, h4x, TU.cl, TU.nC, lt_changes, ?_⟩
        walk_at "rd"
        refine ⟨_, _, rfl, rfl, dx, _, h4x, (by show 6 < 1000; decide), ?_⟩
        rw [e5]
        unfold sDPut
        walk_at "rd"
        refine ⟨_, rfl, x, U, dx, _, _, rfl, h5x, TU.cl, TU.nC, lt_changes, ?_⟩
        walk_at "rd"
        refine ⟨_, rfl, x, U, dx, _, _, rfl, h5x, TU.cl, TU.nS, lt_stamps, ?_⟩
        walk_at "rd"
        refine ⟨sd, _, rfl, DPut.t (k := kk ns) h5s (by rw [kk_v]; exact h5b) (size_lt (by have := c.sz; omega)), ?_⟩
        rw [e6]
        walk_at "rd"
        refine ⟨size_of (Nat.le_of_ble_eq_true rfl), fun p' hp' => ?_⟩
        obtain ⟨H7, e7, s7, h7⟩ := new_heap (o := .tup [.ref b, (valV z.kvs (kk ns)).getD .non, .ref r]) hp'
        rw [e7]
        exact fin p' H7 s7 h7
abbrev mChg (U C D CC : Addr) : Sp := fun vs H Q E => sp_change U C D CC (vs ++ []) H Q E
def sp_one (U C D CC : Addr) (w : Str) : Sp := fun vs H Q E => ∃ x kd od sd z y ns, vs = [.ref x, y] ∧ Chg U C D CC H Q E x kd od sd z w y ns
abbrev s_Truth_insert : Stmt := inClass (top 30) 1
theorem sc_Truth_insert : FnScope ["self", "row"] ["self", "row"] (defScope s_Truth_insert) := ⟨rfl, rfl, rfl, by decide +kernel, rfl, by decide +kernel, by decide +kernel⟩
theorem ok_uinsert {f : Addr} {fd : FuncData} (F : Fun K "insert" "Truth.insert" s_Truth_insert f fd) (TU : ClsU K mg U fT) (UN : ClsUN K U mI mU mD mC' mW mO mS fL fC) (RU_change : FnR P w K mg base (L2.CX P w) 25 mC' (mChg U C D CC)) : FnOk P w K mg base (L2.CX P w) 26 f fd ["self", "row"] (sp_one U C D CC "insert") := by
  refine F.okX sc_Truth_insert (fun vs H Q E h => ?_) (fun cdv A outer s H vs Q E hr h => ?_)
  · obtain ⟨x, kd, od, sd, z, y, ns, rfl, _⟩ := h
    rfl
  · obtain ⟨x, kd, od, sd, z, y, ns, rfl, c⟩ := h
    refine ⟨_, (pss_one (ps_ret (pe_methR (pv 0) TU.cl UN.change RU_change (hr.mono (by decide)) (passE (takes_of rfl rfl rfl rfl)) (pa_cons pe_str (pa_cons (pv 1) pa_nil))))), ?_⟩
    obtain ⟨dx, tx, fx, hx, _⟩ := c.tr.ex
    walk_at "rd"
    refine i_methR ?_
    walk_at "rd"
    refine ⟨x, dx, _, rfl, hx, lt_meth (.inr (.inr (.inr (.inl rfl)))), ?_⟩
    walk_at "rd"
    exact ⟨x, kd, od, sd, z, _, y, ns, rfl, c⟩
abbrev s_Truth_update : Stmt := inClass (top 30) 2
theorem sc_Truth_update : FnScope ["self", "row"] ["self", "row"] (defScope s_Truth_update) := ⟨rfl, rfl, rfl, by decide +kernel, rfl, by decide +kernel, by decide +kernel⟩
theorem ok_uupdate {f : Addr} {fd : FuncData} (F : Fun K "update" "Truth.update" s_Truth_update f fd) (TU : ClsU K mg U fT) (UN : ClsUN K U mI mU mD mC' mW mO mS fL fC) (RU_change : FnR P w K mg base (L2.CX P w) 25 mC' (mChg U C D CC)) : FnOk P w K mg base (L2.CX P w) 26 f fd ["self", "row"] (sp_one U C D CC "update") := by
  refine F.okX sc_Truth_update (fun vs H Q E h => ?_) (fun cdv A outer s H vs Q E hr h => ?_)
  · obtain ⟨x, kd, od, sd, z, y, ns, rfl, _⟩ := h
    rfl
  · obtain ⟨x, kd, od, sd, z, y, ns, rfl, c⟩ := h
    refine ⟨_, (pss_one (ps_ret (pe_methR (pv 0) TU.cl UN.change RU_change (hr.mono (by decide)) (passE (takes_of rfl rfl rfl rfl)) (pa_cons pe_str (pa_cons (pv 1) pa_nil))))), ?_⟩
    obtain ⟨dx, tx, fx, hx, _⟩ := c.tr.ex
    walk_at "rd"
    refine i_methR ?_
    walk_at "rd"
    refine ⟨x, dx, _, rfl, hx, lt_meth (.inr (.inr (.inr (.inl rfl)))), ?_⟩
    walk_at "rd"
    exact ⟨x, kd, od, sd, z, _, y, ns, rfl, c⟩
abbrev s_Truth_delete : Stmt := inClass (top 30) 3
theorem sc_Truth_delete : FnScope ["self", "key"] ["self", "key"] (defScope s_Truth_delete) := ⟨rfl, rfl, rfl, by decide +kernel, rfl, by decide +kernel, by decide +kernel⟩
theorem ok_udelete {f : Addr} {fd : FuncData} (F : Fun K "delete" "Truth.delete" s_Truth_delete f fd) (TU : ClsU K mg U fT) (UN : ClsUN K U mI mU mD mC' mW mO mS fL fC) (RU_change : FnR P w K mg base (L2.CX P w) 25 mC' (mChg U C D CC)) : FnOk P w K mg base (L2.CX P w) 26 f fd ["self", "key"] (sp_one U C D CC "delete") := by
  refine F.okX sc_Truth_delete (fun vs H Q E h => ?_) (fun cdv A outer s H vs Q E hr h => ?_)
  · obtain ⟨x, kd, od, sd, z, y, ns, rfl, _⟩ := h
    rfl
  · obtain ⟨x, kd, od, sd, z, y, ns, rfl, c⟩ := h
    refine ⟨_, (pss_one (ps_ret (pe_methR (pv 0) TU.cl UN.change RU_change (hr.mono (by decide)) (passE (takes_of rfl rfl rfl rfl)) (pa_cons pe_str (pa_cons (pv 1) pa_nil))))), ?_⟩
    obtain ⟨dx, tx, fx, hx, _⟩ := c.tr.ex
    walk_at "rd"
    refine i_methR ?_
    walk_at "rd"
    refine ⟨x, dx, _, rfl, hx, lt_meth (.inr (.inr (.inr (.inl rfl)))), ?_⟩
    walk_at "rd"
    exact ⟨x, kd, od, sd, z, _, y, ns, rfl, c⟩
end
end Spk

set_option Elab.async false
set_option linter.all false
set_option maxRecDepth 100000
set_option maxHeartbeats 4000000
namespace Spk
open PySem L2
local macro_rules | `(tactic| walk_at "rd") => `(tactic| repeat (first
  | with_reducible refine i_seq ?_ | with_reducible refine i_asg ?_ | with_reducible refine i_ret ?_ | with_reducible refine i_ifS ?_ | with_reducible refine i_if ?_
  | with_reducible refine i_for ?_ | with_reducible refine i_iL ?_ | with_reducible refine i_iT ?_ | with_reducible refine i_ckw ?_ | with_reducible refine i_cm ?_ | with_reducible refine And.intro (rfl : V.ref _ = V.ref _) ?_ | with_reducible refine i_rng1 ?_ | with_reducible refine i_bm ?_ | with_reducible refine i_bm0 ?_
  | with_reducible refine i_drop ?_ | with_reducible refine i_next ?_
  | with_reducible refine i_var rfl ?_ | with_reducible refine i_c ?_ | with_reducible refine i_op ?_ | with_reducible refine i_un ?_ | with_reducible refine i_name ?_
  | with_reducible refine i_rI0 ?_ | with_reducible refine i_rU ?_ | with_reducible refine i_rEq rfl ?_ | with_reducible refine i_rNe rfl ?_
  | with_reducible refine i_test ?_ | with_reducible refine i_tB ?_ | with_reducible refine i_and ?_ | with_reducible refine i_or ?_ | with_reducible refine i_not ?_
  | with_reducible refine i_andV ?_ | with_reducible refine i_orV ?_ | with_reducible refine i_notV ?_
  | with_reducible refine i_cons ?_ | with_reducible refine i_nil ?_ | with_reducible refine i_cb ?_ | with_reducible refine i_call ?_ | with_reducible refine i_bl ?_
  | with_reducible refine i_tup ?_ | with_reducible refine i_lst ?_ | with_reducible refine i_par ?_ | with_reducible refine i_gcons ?_ | with_reducible refine i_gnil ?_
  | with_reducible refine And.intro (rfl : V.non = V.non) ?_ | with_reducible refine i_ixT (by assumption) rfl ?_ | with_reducible refine i_ixL (by assumption) rfl ?_ | with_reducible refine i_gtup (by assumption) rfl ?_
  | with_reducible refine i_gsub ?_
  | with_reducible refine Or.inl (Exists.intro _ (And.intro (rfl : [V.int _] = [V.int _]) ?_)) | with_reducible refine Exists.intro _ (And.intro (rfl : [V.int _] = [V.int _]) ?_)
  | with_reducible refine Or.inr (Exists.intro _ (And.intro (rfl : [V.bl _] = [V.bl _]) ?_))
  | with_reducible refine Exists.intro _ (Exists.intro _ (And.intro (rfl : [V.int _, V.int _] = [V.int _, V.int _]) ?_))
  | with_reducible refine Exists.intro _ (Exists.intro _ (And.intro (rfl : [V.ref _] = [V.ref _]) (And.intro (Or.inl (SqL.of (by assumption))) ?_)))
  | with_reducible refine i_rI (show (0 : Int) < _ by assumption) ?_ | with_reducible refine i_rI (show (0 : Int) < _ by decide) ?_
  | with_reducible refine i_rI (pow_ok (Nat.le_of_ble_eq_true rfl) (Nat.le_of_ble_eq_true rfl)) ?_
  | with_reducible refine i_rI (cmulL rfl) ?_))
/-! ### a change asked and made, its refusal caught -/
def rIsPc (K : PySem.W.Frag) (C a : Addr) (cls : Value) (d : Option Addr) : List V → Hp → VK → Prop := fun xs H Q => cls = .ref C ∧ rIsP K C a d xs H Q
theorem call_isPc {X : Cx} {K : PySem.W.Frag} {pn : List (Addr × Obj)} {a C : Addr} {oe : Obj} {cls : Value} {d : Option Addr} (T : ExP K C) (hz : Zc cls d oe) (hf : ∃ vs, oe.data = .fields vs) (hpin : (a, oe) ∈ pn) (hK : X.K = K := by rfl) (hp : X.pn = pn := by rfl) : CallR X (.builtin "isinstance") (rIsPc K C a cls d) := by
  subst hK hp
  rintro pins s σ H xs us Q I r ⟨e, h⟩
  subst e
  exact call_isP T hz hf hpin pins s σ H xs us Q I r h
theorem pe_xfPK {X : Cx} {K : PySem.W.Frag} {pn : List (Addr × Obj)} {a C : Addr} {oe : Obj} {cls : Value} {d : Option Addr} {e : Expr} {te : TE} {pos : Pos} {n : Str} (T : XfC K C) (hno : PySem.W.findIn K (.ref C) n = some none) (hz : Zc cls d oe) (hf : ∃ vs, oe.data = .fields vs) (hpin : (a, oe) ∈ pn) (he : PE X e te)
    (hK : X.K = K := by rfl) (hp : X.pn = pn := by rfl) (hb : attributeBase e n X.env (eval e X.env) = eval e X.env := by rfl) : PE X (.Attribute e n pos) (tXf a cls d C n te) := by
  subst hK hp
  exact pe_xfP T hno hz hf hpin he hb
/-- what else is told of the errors -/
structure XEc (K : PySem.W.Frag) (mg : Str → Option Value) (CC CE : Addr) : Prop where
  xf : XfC K CC
  xp : ExP K CC
  kit : PySem.W.kitOne K (.ref CC) (.ref CC) = some true
  exm : PySem.W.exmOne K (.ref CC) (.ref CE) = some true
  g : mg "FeedError" = some (.ref CE)
theorem i_xf {a : Addr} {cls : Value} {d : Option Addr} {C : Addr} {f : Str} {te : TE} {σ : L2.St} {H : Hp} {Q : VK} (h : te σ H fun x H1 => x = .ref a ∧ cls = .ref C ∧ ∃ (dd : Addr) (fs : List (Str × V)) (v : V), d = some dd ∧ H1 dd = some (.xd fs) ∧ fs.lookup f = some v ∧ Q v H1) : tXf a cls d C f te σ H Q := h
theorem lk_reason {v : V} : [(("reason" : Str), v)].lookup ("reason" : Str) = some v := by
  simp only [List.lookup, beq_self_eq_true]
section
variable {P : Program} {w : World} {K : PySem.W.Frag} {mg : Str → Option Value} {base : Heap} {C D U R fT CC CE fX : Addr} {mI mU mD mC' mW mO mS fL fC : Addr}
abbrev s_call : Stmt := top 46
theorem sc_call : FnScope ["_law_truth", "_law_word_here", "_law_thing", "_law_caught", "e"] ["_law_truth", "_law_word_here", "_law_thing"] (defScope s_call) := ⟨rfl, rfl, rfl, by decide +kernel, rfl, by decide +kernel, by decide +kernel⟩
def sp_call (U C D : Addr) : Sp := fun vs H Q _ => ∃ x kd od sd z w y ns, vs = [.ref x, .str w, y] ∧ Tru U C D H x kd od sd z ∧ OsOk H z ∧ StOk z ∧ Wish H z.t w y ns ∧ RowsG H z ∧ (∀ p, p ∈ places z.t (ctn H ((valV z.kvs (kk ns)).getD .non)) → (valV z.os (kp p)).isSome = true) ∧ z.kvs.length ≤ 1000 ∧ z.sts.length ≤ 1000 ∧ z.os.length ≤ 5000 ∧
  (∀ rs, dueW H z w ns y = some rs → ∀ p H', Same H H' → H' p = some (.tup [.str "refused", .str rs]) → Q (.ref p) H') ∧
  (dueW H z w ns y = none → ∀ p t b H', OffT x kd od sd H H' → Tru U C D H' x kd od sd (chg H z w ns y b) → KeyAt H' b ns z.t.ks.length → H' t = some (.tup [.ref b, (valV z.kvs (kk ns)).getD .non, if w = "delete" then .non else y]) → H' p = some (.tup [.str "told", .ref t]) → Q (.ref p) H')
theorem ok_call {f : Addr} {fd fd1 fd2 fd3 : FuncData} (F : Fun K "_law_call" "_law_call" s_call f fd) (TU : ClsU K mg U fT) (UN : ClsUN K U mI mU mD mC' mW mO mS fL fC) (XC : XCt K mg CC fX) (XE : XEc K mg CC CE)
    (GU_insert : FnOk P w K mg base (L2.CX P w) 26 mI fd1 ["self", "row"] (sp_one U C D CC "insert")) (BU_insert : Binds K fd1 ["self", "row"] []) (GU_update : FnOk P w K mg base (L2.CX P w) 26 mU fd2 ["self", "row"] (sp_one U C D CC "update")) (BU_update : Binds K fd2 ["self", "row"] [])
    (GU_delete : FnOk P w K mg base (L2.CX P w) 26 mD fd3 ["self", "key"] (sp_one U C D CC "delete")) (BU_delete : Binds K fd3 ["self", "key"] []) (z_isinstance : mg "isinstance" = none) :
    FnOk P w K mg base CX0 27 f fd ["_law_truth", "_law_word_here", "_law_thing"] (sp_call U C D) := by
  have XF := XE.xf
  have XP := XE.xp
  have g_FeedError := XE.g
  refine F.ok sc_call (fun vs H Q E h => ?_) (fun cdv A outer s H vs Q E hr h => ?_)
  · obtain ⟨x, kd, od, sd, z, w, y, ns, rfl, _⟩ := h
    rfl
  · obtain ⟨x, kd, od, sd, z, w, y, ns, rfl, tr, oo, so, wi, ri, ow, kz, sz, oz, q1, q2⟩ := h
    refine ⟨_, (pss_cons (ps_set (i := 3) sc_call.nd rfl (Or.inl rfl) pe_non)
 (pss_try_keep (i := 4) (j := 3) rfl rfl sc_call.nd rfl rfl (by show 3 < 5; decide) ⟨rfl, by decide, .inl g_FeedError⟩ (fun W pn xe tk po => (pss_cons (ps_if (pt_cmpR op_eq (pv 1) pe_str (nomark _))
 (pss_one (ps_ret (pe_tup (pa_cons pe_str (pa_cons (pe_methS (pv 0) TU.cl UN.insert GU_insert (hr.mono (by decide)) BU_insert (fun σ => passAt tk σ) (pa_cons (pv 2) pa_nil)) pa_nil)))))
 pss_nil)
 (pss_cons (ps_if (pt_cmpR op_eq (pv 1) pe_str (nomark _))
 (pss_one (ps_ret (pe_tup (pa_cons pe_str (pa_cons (pe_methS (pv 0) TU.cl UN.update GU_update (hr.mono (by decide)) BU_update (fun σ => passAt tk σ) (pa_cons (pv 2) pa_nil)) pa_nil)))))
 pss_nil)
 (pss_one (ps_ret (pe_tup (pa_cons pe_str (pa_cons (pe_methS (pv 0) TU.cl UN.delete GU_delete (hr.mono (by decide)) BU_delete (fun σ => passAt tk σ) (pa_cons (pv 2) pa_nil)) pa_nil))))))))
 (fun a oe pn => (pss_one (ps_set (i := 3) sc_call.nd rfl (Or.inl rfl) (pv 4))))
 (pss_one ps_dead)
 (fun a oe cls d pn hz hf hp => (pss_one (ps_ret (pe_ifExp (pt_val (pe_callB (call_isPc XP hz hf hp) (by rfl) z_isinstance (by decide +kernel) (pa_cons (pv 3) (pa_cons (pe_glob rfl XC.g (relR _)) pa_nil)))) (pe_tup (pa_cons pe_str (pa_cons (pe_xfPK XF XC.noR hz hf hp (pv 3)) pa_nil))) (pe_tup (pa_cons pe_str (pa_cons pe_non pa_nil))))))))), ?_⟩
    obtain ⟨dx, tx, fx, hx, _⟩ := tr.ex
    walk_at "rd"
    have hw : w = "insert" ∨ w = "update" ∨ w = "delete" := by
      rcases wi with ⟨e, _⟩ | ⟨e | e, _⟩
      · exact .inr (.inr e)
      · exact .inl e
      · exact .inr (.inl e)
    rcases hw with rfl | rfl | rfl
    · rw [decide_eq_true rfl]
      refine iteT ?_
      walk_at "rd"
      refine i_methS ?_
      walk_at "rd"
      refine ⟨x, dx, _, rfl, hx, lt_meth (.inl rfl), ?_⟩
      walk_at "rd"
      refine ⟨x, kd, od, sd, z, y, ns, rfl, ⟨tr, oo, so, wi, ri, ow, kz, sz, oz, fun rs due d H1 s1 hd => ⟨XE.exm, fun a ha => ?_⟩, fun due p b H1 off tr1 ka hp => ?_⟩⟩
      · walk_at "rd"
        refine ⟨rfl, .ref CC, .ref CC, true, d, _, rfl, .own CC, XE.kit, rfl, hd, true, rfl, iteT ?_⟩
        walk_at "rd"
        refine i_xf (i_var rfl ?_)
        refine ⟨rfl, rfl, d, _, .str rs, rfl, hd, lk_reason, ?_⟩
        walk_at "rd"
        refine ⟨size_of (Nat.le_of_ble_eq_true rfl), fun t ht => ?_⟩
        obtain ⟨H2, e2, s2, h2⟩ := new_heap (o := .tup [.str "refused", .str rs]) ht
        rw [e2]
        exact q1 rs due t H2 (fun c o e => s2 _ _ (s1 _ _ e)) h2
      · walk_at "rd"
        refine ⟨size_of (Nat.le_of_ble_eq_true rfl), fun t ht => ?_⟩
        obtain ⟨H2, e2, s2, h2⟩ := new_heap (o := .tup [.str "told", .ref p]) ht
        rw [e2]
        exact q2 due t p b H2 (off.trans (Same.offT s2)) (tr1.up s2) (ka.up s2) (s2 _ _ hp) h2
    · rw [decide_eq_false (show ¬ V.str "update" = V.str "insert" from fun e => absurd (V.str.inj e) (by decide))]
      refine iteF ?_
      walk_at "rd"
      rw [decide_eq_true rfl]
      refine iteT ?_
      walk_at "rd"
      refine i_methS ?_
      walk_at "rd"
      refine ⟨x, dx, _, rfl, hx, lt_meth (.inr (.inl rfl)), ?_⟩
      walk_at "rd"
      refine ⟨x, kd, od, sd, z, y, ns, rfl, ⟨tr, oo, so, wi, ri, ow, kz, sz, oz, fun rs due d H1 s1 hd => ⟨XE.exm, fun a ha => ?_⟩, fun due p b H1 off tr1 ka hp => ?_⟩⟩
      · walk_at "rd"
        refine ⟨rfl, .ref CC, .ref CC, true, d, _, rfl, .own CC, XE.kit, rfl, hd, true, rfl, iteT ?_⟩
        walk_at "rd"
        refine i_xf (i_var rfl ?_)
        refine ⟨rfl, rfl, d, _, .str rs, rfl, hd, lk_reason, ?_⟩
        walk_at "rd"
        refine ⟨size_of (Nat.le_of_ble_eq_true rfl), fun t ht => ?_⟩
        obtain ⟨H2, e2, s2, h2⟩ := new_heap (o := .tup [.str "refused", .str rs]) ht
        rw [e2]
        exact q1 rs due t H2 (fun c o e => s2 _ _ (s1 _ _ e)) h2
      · walk_at "rd"
        refine ⟨size_of (Nat.le_of_ble_eq_true rfl), fun t ht => ?_⟩
        obtain ⟨H2, e2, s2, h2⟩ := new_heap (o := .tup [.str "told", .ref p]) ht
        rw [e2]
        exact q2 due t p b H2 (off.trans (Same.offT s2)) (tr1.up s2) (ka.up s2) (s2 _ _ hp) h2
    · rw [decide_eq_false (show ¬ V.str "delete" = V.str "insert" from fun e => absurd (V.str.inj e) (by decide))]
      refine iteF ?_
      walk_at "rd"
      rw [decide_eq_false (show ¬ V.str "delete" = V.str "update" from fun e => absurd (V.str.inj e) (by decide))]
      refine iteF ?_
      walk_at "rd"
      refine i_methS ?_
      walk_at "rd"
      refine ⟨x, dx, _, rfl, hx, lt_meth (.inr (.inr (.inl rfl))), ?_⟩
      walk_at "rd"
      refine ⟨x, kd, od, sd, z, y, ns, rfl, ⟨tr, oo, so, wi, ri, ow, kz, sz, oz, fun rs due d H1 s1 hd => ⟨XE.exm, fun a ha => ?_⟩, fun due p b H1 off tr1 ka hp => ?_⟩⟩
      · walk_at "rd"
        refine ⟨rfl, .ref CC, .ref CC, true, d, _, rfl, .own CC, XE.kit, rfl, hd, true, rfl, iteT ?_⟩
        walk_at "rd"
        refine i_xf (i_var rfl ?_)
        refine ⟨rfl, rfl, d, _, .str rs, rfl, hd, lk_reason, ?_⟩
        walk_at "rd"
        refine ⟨size_of (Nat.le_of_ble_eq_true rfl), fun t ht => ?_⟩
        obtain ⟨H2, e2, s2, h2⟩ := new_heap (o := .tup [.str "refused", .str rs]) ht
        rw [e2]
        exact q1 rs due t H2 (fun c o e => s2 _ _ (s1 _ _ e)) h2
      · walk_at "rd"
        refine ⟨size_of (Nat.le_of_ble_eq_true rfl), fun t ht => ?_⟩
        obtain ⟨H2, e2, s2, h2⟩ := new_heap (o := .tup [.str "told", .ref p]) ht
        rw [e2]
        exact q2 due t p b H2 (off.trans (Same.offT s2)) (tr1.up s2) (ka.up s2) (s2 _ _ hp) h2
end
end Spk

set_option Elab.async false
set_option linter.all false
set_option maxRecDepth 100000
set_option maxHeartbeats 4000000
namespace Spk
open PySem L2
local macro_rules | `(tactic| walk_at "rd") => `(tactic| repeat (first
  | with_reducible refine i_seq ?_ | with_reducible refine i_asg ?_ | with_reducible refine i_ret ?_ | with_reducible refine i_ifS ?_ | with_reducible refine i_if ?_
  | with_reducible refine i_for ?_ | with_reducible refine i_iL ?_ | with_reducible refine i_iT ?_ | with_reducible refine i_ckw ?_ | with_reducible refine i_cm ?_ | with_reducible refine And.intro (rfl : V.ref _ = V.ref _) ?_ | with_reducible refine i_rng1 ?_ | with_reducible refine i_bm ?_ | with_reducible refine i_bm0 ?_
  | with_reducible refine i_drop ?_ | with_reducible refine i_next ?_
  | with_reducible refine i_var rfl ?_ | with_reducible refine i_c ?_ | with_reducible refine i_op ?_ | with_reducible refine i_un ?_ | with_reducible refine i_name ?_
  | with_reducible refine i_rI0 ?_ | with_reducible refine i_rU ?_ | with_reducible refine i_rEq rfl ?_ | with_reducible refine i_rNe rfl ?_
  | with_reducible refine i_test ?_ | with_reducible refine i_tB ?_ | with_reducible refine i_and ?_ | with_reducible refine i_or ?_ | with_reducible refine i_not ?_
  | with_reducible refine i_andV ?_ | with_reducible refine i_orV ?_ | with_reducible refine i_notV ?_
  | with_reducible refine i_cons ?_ | with_reducible refine i_nil ?_ | with_reducible refine i_cb ?_ | with_reducible refine i_call ?_ | with_reducible refine i_bl ?_
  | with_reducible refine i_tup ?_ | with_reducible refine i_lst ?_ | with_reducible refine i_par ?_ | with_reducible refine i_gcons ?_ | with_reducible refine i_gnil ?_
  | with_reducible refine And.intro (rfl : V.non = V.non) ?_ | with_reducible refine i_ixT (by assumption) rfl ?_ | with_reducible refine i_ixL (by assumption) rfl ?_ | with_reducible refine i_gtup (by assumption) rfl ?_
  | with_reducible refine i_gsub ?_
  | with_reducible refine Or.inl (Exists.intro _ (And.intro (rfl : [V.int _] = [V.int _]) ?_)) | with_reducible refine Exists.intro _ (And.intro (rfl : [V.int _] = [V.int _]) ?_)
  | with_reducible refine Or.inr (Exists.intro _ (And.intro (rfl : [V.bl _] = [V.bl _]) ?_))
  | with_reducible refine Exists.intro _ (Exists.intro _ (And.intro (rfl : [V.int _, V.int _] = [V.int _, V.int _]) ?_))
  | with_reducible refine Exists.intro _ (Exists.intro _ (And.intro (rfl : [V.ref _] = [V.ref _]) (And.intro (Or.inl (SqL.of (by assumption))) ?_)))
  | with_reducible refine i_rI (show (0 : Int) < _ by assumption) ?_ | with_reducible refine i_rI (show (0 : Int) < _ by decide) ?_
  | with_reducible refine i_rI (pow_ok (Nat.le_of_ble_eq_true rfl) (Nat.le_of_ble_eq_true rfl)) ?_
  | with_reducible refine i_rI (cmulL rfl) ?_))
/-! ### made rows as functions, and steps -/
abbrev Row : Type := Addr × List V
structure Stp where
  ns : List Int
  old : Option Row
  new : Option Row
abbrev Fn : Type := List Int → Option Row
abbrev Gn : Type := List Int → Option Nat
def vOf : Option Row → V
  | none => .non
  | some p => .ref p.1
def stepF (f : Fn) (s : Stp) : Fn := fun m => if m = s.ns then s.new else f m
def stepG (g : Gn) (s : Stp) (n : Nat) : Gn := fun m => if m = s.ns then some (n + 1) else g m
def fR : List Stp → Fn
  | [] => fun _ => none
  | s :: rs => stepF (fR rs) s
def gR : List Stp → Gn
  | [] => fun _ => none
  | s :: rs => stepG (gR rs) s rs.length
def fOf (ss : List Stp) : Fn := fR ss.reverse
def gOf (ss : List Stp) : Gn := gR ss.reverse
theorem fOf_snoc (ss : List Stp) (s : Stp) : fOf (ss ++ [s]) = stepF (fOf ss) s := by
  unfold fOf
  rw [List.reverse_append]
  rfl
theorem gOf_snoc (ss : List Stp) (s : Stp) : gOf (ss ++ [s]) = stepG (gOf ss) s ss.length := by
  unfold gOf
  rw [List.reverse_append]
  show stepG (gR ss.reverse) s ss.reverse.length = _
  rw [List.length_reverse]
/-- two rows have a value in common that only one may have -/
def Shares (t : Tb) (us vs : List V) : Prop := ∃ q, q ∈ places t us ∧ q ∈ places t vs
def Taken (t : Tb) (f : Fn) (ns : List Int) (us : List V) : Prop := ∃ m p, m ≠ ns ∧ f m = some p ∧ Shares t us p.2
/-- a row that has this key -/
structure KeyRow (t : Tb) (ns : List Int) (us : List V) : Prop where
  ok : RowOk t.ks t.cs us
  pk : picked t.cs us t.ks = ns.map V.int
structure StepOk (t : Tb) (r : Fi.Tr) (f : Fn) (g : Gn) (s : Stp) : Prop where
  reg : r.sem (rhoK t.ks s.ns) = some true
  len : s.ns.length = t.ks.length
  tiny : Tiny s.ns
  old : s.old = f s.ns
  row : ∀ p, s.new = some p → KeyRow t s.ns p.2 ∧ ¬ Taken t f s.ns p.2
  ins : s.old = none → s.new ≠ none ∧ (t.r = false → g s.ns = none)
  upd : ∀ o p, s.old = some o → s.new = some p → picked t.cs p.2 t.fs = picked t.cs o.2 t.fs
def wordS (s : Stp) : Str := if s.old = none then "insert" else if s.new = none then "delete" else "update"
/-- made rows, their places, their keys -/
structure TD where
  x : Addr
  k : Addr
  o : Addr
  s : Addr
  z : Tw
  nss : List (List Int)
structure Mod (U C D : Addr) (H : Hp) (t : Tb) (r : Fi.Tr) (d : TD) (f : Fn) (g : Gn) (n m : Nat) : Prop where
  tr : Tru U C D H d.x d.k d.o d.s d.z
  zt : d.z.t = t
  zr : d.z.r = r
  ki : keysIn d.z.kvs d.nss
  nd : d.nss.Nodup
  kz : ∀ ns, ns ∈ d.nss → ns.length = t.ks.length ∧ Tiny ns
  zn : d.z.n = n
  fv : ∀ m, valV d.z.kvs (kk m) = (f m).map fun p => V.ref p.1
  fr : ∀ m p, f m = some p → H p.1 = some (.tup p.2) ∧ KeyRow t m p.2
  gv : ∀ m, valV d.z.sts (kk m) = (g m).map fun n : Nat => V.int (n : Int)
  so : StOk d.z
  o1 : ∀ m p q, f m = some p → q ∈ places t p.2 → ∃ b, valV d.z.os (kp q) = some (.ref b) ∧ H b = some (.tup (m.map V.int))
  o2 : ∀ k v, valV d.z.os k = some v → ∃ b m p q, v = .ref b ∧ H b = some (.tup (m.map V.int)) ∧ k = kp q ∧ f m = some p ∧ q ∈ places t p.2
  lk : d.z.kvs.length ≤ m
  ls : d.z.sts.length ≤ m
  lo : d.z.os.length ≤ 4 * m
section
variable {U C D : Addr} {H H' : Hp} {t : Tb} {r : Fi.Tr} {d : TD} {f : Fn} {g : Gn} {n m : Nat}
theorem Mod.tup (h : Mod U C D H t r d f g n m) (tr : Tru U C D H' d.x d.k d.o d.s d.z) (e : ∀ a us, H a = some (.tup us) → H' a = some (.tup us)) : Mod U C D H' t r d f g n m := by
  refine { h with tr := tr, fr := fun m p a => ⟨e _ _ (h.fr m p a).1, (h.fr m p a).2⟩, o1 := fun m p q a b => ?_, o2 := fun k v a => ?_ }
  · obtain ⟨b', x, y⟩ := h.o1 m p q a b
    exact ⟨b', x, e _ _ y⟩
  · obtain ⟨b, m, p, q, x, y, z⟩ := h.o2 k v a
    exact ⟨b, m, p, q, x, e _ _ y, z⟩
theorem Mod.up (e : Same H H') (h : Mod U C D H t r d f g n m) : Mod U C D H' t r d f g n m := h.tup (h.tr.up e) fun _ _ => e _ _
theorem Mod.keep (e : Keep H H') (h : Mod U C D H t r d f g n m) : Mod U C D H' t r d f g n m := h.tup (h.tr.keep e) fun _ _ => e _ _ rfl
theorem Mod.mono {m' : Nat} (e : m ≤ m') (h : Mod U C D H t r d f g n m) : Mod U C D H t r d f g n m' := { h with lk := Nat.le_trans h.lk e, ls := Nat.le_trans h.ls e, lo := Nat.le_trans h.lo (by omega) }
theorem Mod.oo (h : Mod U C D H t r d f g n m) : OsOk H d.z := fun k v a => by
  obtain ⟨b, m, p, q, x, y, _⟩ := h.o2 k v a
  exact ⟨b, m, x, y⟩
theorem Mod.key_of (h : Mod U C D H t r d f g n m) {k : List Key} {v : V} (e : valV d.z.kvs k = some v) : ∃ ns, ns ∈ d.nss ∧ k = kk ns := by
  have mm := valV_in e
  rw [h.ki] at mm
  obtain ⟨ns, mn, en⟩ := List.mem_map.mp mm
  exact ⟨ns, mn, en.symm⟩
theorem Mod.ri (h : Mod U C D H t r d f g n m) : RowsG H d.z := fun k v e => by
  obtain ⟨ns, _, rfl⟩ := h.key_of e
  rw [h.fv] at e
  obtain ⟨p, ep, rfl⟩ := Option.map_eq_some_iff.mp e
  obtain ⟨a, b⟩ := h.fr ns p ep
  refine ⟨(fun z => nomatch z), .inr ⟨p.1, p.2, rfl, a, ?_, row_plain b.ok⟩⟩
  rw [h.zt]
  exact Paired.length b.ok
theorem Mod.old (h : Mod U C D H t r d f g n m) (ns : List Int) : (valV d.z.kvs (kk ns)).getD .non = vOf (f ns) := by
  rw [h.fv]
  cases f ns <;> rfl
theorem Mod.octn (h : Mod U C D H t r d f g n m) {ns : List Int} {p : Row} (e : f ns = some p) : ctn H (vOf (f ns)) = p.2 := by
  rw [e]
  exact ctn_at (h.fr ns p e).1
theorem Mod.ow (h : Mod U C D H t r d f g n m) (ns : List Int) : ∀ q, q ∈ places d.z.t (ctn H ((valV d.z.kvs (kk ns)).getD .non)) → (valV d.z.os (kp q)).isSome = true := fun q hq => by
  rw [h.old, h.zt] at hq
  cases e : f ns with
  | none =>
    rw [e, show ctn H (vOf none) = [] from rfl] at hq
    unfold places at hq
    rw [pls_nil] at hq
    cases hq
  | some p =>
    rw [h.octn e] at hq
    obtain ⟨b, eb, _⟩ := h.o1 ns p q e hq
    rw [eb]
    rfl
theorem ints_inj {a b : List Int} (h : a.map V.int = b.map V.int) : a = b := (List.map_inj_right (fun _ _ z => V.int.inj z)).mp h
theorem Mod.tk (h : Mod U C D H t r d f g n m) {ns : List Int} {us : List V} : tkB H d.z ns us = true ↔ Taken t f ns us := by
  unfold tkB
  rw [h.zt, List.any_eq_true]
  constructor
  · rintro ⟨q, hq, e⟩
    unfold ownB at e
    cases ev : valV d.z.os (kp q) with
    | none =>
      rw [ev] at e
      cases e
    | some v =>
      obtain ⟨b, m, p, q', rfl, hb, ek, ef, hq'⟩ := h.o2 _ _ ev
      rw [ev] at e
      dsimp only at e
      rw [ctn_at hb, decide_eq_true_eq] at e
      rw [← kp_inj ek] at hq'
      exact ⟨m, p, fun z => e (by rw [z]), ef, q, hq, hq'⟩
  · rintro ⟨m, p, ne, ef, q, hq, hq'⟩
    obtain ⟨b, eb, hb⟩ := h.o1 m p q ef hq'
    refine ⟨q, hq, ?_⟩
    unfold ownB
    rw [eb]
    dsimp only
    rw [ctn_at hb, decide_eq_true_eq]
    exact fun z => ne (ints_inj z)
theorem Mod.inR (h : Mod U C D H t r d f g n m) {ns : List Int} : inR d.z ns = decide (r.sem (rhoK t.ks ns) = some true) := by
  unfold Spk.inR
  rw [h.zt, h.zr]
/-- what is told is a step -/
theorem Mod.told (h : Mod U C D H t r d f g n m) {w : Str} {y : V} {ns : List Int} (wi : Wish H t w y ns) (dn : dueW H d.z w ns y = none) : ∃ new, StepOk t r f g ⟨ns, f ns, new⟩ ∧ wordS ⟨ns, f ns, new⟩ = w ∧ vOf new = (if w = "delete" then .non else y) ∧ ∀ p, new = some p → H p.1 = some (.tup p.2) := by
  have lt : ns.length = t.ks.length ∧ Tiny ns := by
    rcases wi with ⟨_, b, _, ka⟩ | ⟨_, _, _, _, _, _, _, tn, nl⟩
    · exact ⟨ka.z, ka.tiny⟩
    · exact ⟨nl, tn⟩
  unfold dueW at dn
  rw [h.inR] at dn
  by_cases hr : r.sem (rhoK t.ks ns) = some true
  · rw [decide_eq_true hr, if_neg (by decide)] at dn
    by_cases hi : w = "insert"
    · rw [if_pos hi] at dn
      rcases wi with ⟨e, _⟩ | ⟨_, rr, us, rfl, hrr, ro, pk, tn, nl⟩
      · rw [hi] at e
        exact absurd e (by decide)
      rw [ctn_at hrr] at dn
      unfold dueI at dn
      rw [h.fv, h.gv] at dn
      cases ef : f ns with
      | some p =>
        rw [ef, if_pos (show ((some p : Option Row).map fun p => V.ref p.1).isSome = true from rfl)] at dn
        cases dn
      | none =>
        rw [ef, if_neg (by decide)] at dn
        by_cases ha : d.z.t.r = false ∧ ((g ns).map fun n : Nat => V.int (n : Int)).isSome = true
        · rw [if_pos ha] at dn
          cases dn
        rw [if_neg ha] at dn
        by_cases ht : tkB H d.z ns us = true
        · rw [if_pos ht] at dn
          cases dn
        refine ⟨some (rr, us), ⟨hr, lt.1, lt.2, ef.symm, fun p e => ?_, fun _ => ⟨fun z => (nomatch z), fun tr => ?_⟩, fun o p e _ => (nomatch e)⟩, ?_, ?_, fun p e => ?_⟩
        · cases e
          exact ⟨⟨ro, pk⟩, fun z => ht (h.tk.mpr z)⟩
        · cases eg : g ns with
          | none => rfl
          | some k => exact absurd ⟨by rw [h.zt]; exact tr, by rw [eg]; rfl⟩ ha
        · rw [hi]
          rfl
        · rw [hi, if_neg (by decide)]
          rfl
        · cases e
          exact hrr
    · rw [if_neg hi, h.fv] at dn
      cases ef : f ns with
      | none =>
        rw [ef] at dn
        cases dn
      | some o =>
        rw [ef] at dn
        dsimp only [Option.map_some] at dn
        by_cases hd : w = "delete"
        · refine ⟨none, ⟨hr, lt.1, lt.2, ef.symm, fun p e => (nomatch e), fun e => (nomatch e), fun o p _ e => (nomatch e)⟩, ?_, by rw [if_pos hd]; rfl, fun p e => (nomatch e)⟩
          rw [hd]
          rfl
        · rw [if_neg hd] at dn
          rcases wi with ⟨e, _⟩ | ⟨hw, rr, us, rfl, hrr, ro, pk, tn, nl⟩
          · exact absurd e hd
          rw [ctn_at hrr] at dn
          unfold dueU at dn
          rw [ctn_at (h.fr ns o ef).1, h.zt] at dn
          by_cases hf : picked t.cs us t.fs ≠ picked t.cs o.2 t.fs
          · rw [if_pos hf] at dn
            cases dn
          rw [if_neg hf] at dn
          by_cases ht : tkB H d.z ns us = true
          · rw [if_pos ht] at dn
            cases dn
          refine ⟨some (rr, us), ⟨hr, lt.1, lt.2, ef.symm, fun p e => ?_, fun e => (nomatch e), fun o' p e1 e2 => ?_⟩, ?_, by rw [if_neg hd]; rfl, fun p e => ?_⟩
          · cases e
            exact ⟨⟨ro, pk⟩, fun z => ht (h.tk.mpr z)⟩
          · cases e1
            cases e2
            exact Classical.not_not.mp hf
          · rw [hw.resolve_left hi]
            rfl
          · cases e
            exact hrr
  · rw [decide_eq_false hr, if_pos rfl] at dn
    cases dn
/-- a step can be made -/
theorem Mod.can (h : Mod U C D H t r d f g n m) {s : Stp} (ok : StepOk t r f g s) (hn : ∀ p, s.new = some p → H p.1 = some (.tup p.2)) {y : V} (ey : s.new ≠ none → y = vOf s.new) : dueW H d.z (wordS s) s.ns y = none := by
  unfold dueW
  rw [h.inR, decide_eq_true ok.reg, if_neg (by decide)]
  have eo := ok.old
  cases ho : s.old with
  | none =>
    rw [ho] at eo
    rw [show wordS s = "insert" from by unfold wordS; rw [if_pos ho], if_pos rfl]
    obtain ⟨nn, ag⟩ := ok.ins ho
    cases hp : s.new with
    | none => exact absurd hp nn
    | some p =>
      rw [ey nn, hp, show vOf (some p) = .ref p.1 from rfl, ctn_at (hn p hp)]
      unfold dueI
      rw [h.fv, h.gv, ← eo, if_neg (by decide), if_neg (fun z => by rw [ag (by rw [← h.zt]; exact z.1)] at z; cases z.2), if_neg (fun z => (ok.row p hp).2 (h.tk.mp z))]
  | some o =>
    rw [ho] at eo
    have wn : ¬ wordS s = "insert" := by
      unfold wordS
      rw [if_neg (by rw [ho]; exact fun z => nomatch z)]
      split <;> decide
    rw [if_neg wn, h.fv, ← eo]
    dsimp only [Option.map_some]
    cases hp : s.new with
    | none =>
      rw [if_pos (by unfold wordS; rw [if_neg (by rw [ho]; exact fun z => nomatch z), if_pos hp])]
    | some p =>
      rw [if_neg (by unfold wordS; rw [if_neg (by rw [ho]; exact fun z => nomatch z), if_neg (by rw [hp]; exact fun z => nomatch z)]; decide)]
      rw [ey (by rw [hp]; exact fun z => nomatch z), hp, show vOf (some p) = .ref p.1 from rfl, ctn_at (hn p hp)]
      unfold dueU
      rw [ctn_at (h.fr _ _ eo.symm).1, h.zt, if_neg (fun z => z (ok.upd o p ho hp)), if_neg (fun z => (ok.row p hp).2 (h.tk.mp z))]
end
end Spk

set_option Elab.async false
set_option linter.all false
set_option maxRecDepth 100000
set_option maxHeartbeats 4000000
namespace Spk
open PySem L2
local macro_rules | `(tactic| walk_at "rd") => `(tactic| repeat (first
  | with_reducible refine i_seq ?_ | with_reducible refine i_asg ?_ | with_reducible refine i_ret ?_ | with_reducible refine i_ifS ?_ | with_reducible refine i_if ?_
  | with_reducible refine i_for ?_ | with_reducible refine i_iL ?_ | with_reducible refine i_iT ?_ | with_reducible refine i_ckw ?_ | with_reducible refine i_cm ?_ | with_reducible refine And.intro (rfl : V.ref _ = V.ref _) ?_ | with_reducible refine i_rng1 ?_ | with_reducible refine i_bm ?_ | with_reducible refine i_bm0 ?_
  | with_reducible refine i_drop ?_ | with_reducible refine i_next ?_
  | with_reducible refine i_var rfl ?_ | with_reducible refine i_c ?_ | with_reducible refine i_op ?_ | with_reducible refine i_un ?_ | with_reducible refine i_name ?_
  | with_reducible refine i_rI0 ?_ | with_reducible refine i_rU ?_ | with_reducible refine i_rEq rfl ?_ | with_reducible refine i_rNe rfl ?_
  | with_reducible refine i_test ?_ | with_reducible refine i_tB ?_ | with_reducible refine i_and ?_ | with_reducible refine i_or ?_ | with_reducible refine i_not ?_
  | with_reducible refine i_andV ?_ | with_reducible refine i_orV ?_ | with_reducible refine i_notV ?_
  | with_reducible refine i_cons ?_ | with_reducible refine i_nil ?_ | with_reducible refine i_cb ?_ | with_reducible refine i_call ?_ | with_reducible refine i_bl ?_
  | with_reducible refine i_tup ?_ | with_reducible refine i_lst ?_ | with_reducible refine i_par ?_ | with_reducible refine i_gcons ?_ | with_reducible refine i_gnil ?_
  | with_reducible refine And.intro (rfl : V.non = V.non) ?_ | with_reducible refine i_ixT (by assumption) rfl ?_ | with_reducible refine i_ixL (by assumption) rfl ?_ | with_reducible refine i_gtup (by assumption) rfl ?_
  | with_reducible refine i_gsub ?_
  | with_reducible refine Or.inl (Exists.intro _ (And.intro (rfl : [V.int _] = [V.int _]) ?_)) | with_reducible refine Exists.intro _ (And.intro (rfl : [V.int _] = [V.int _]) ?_)
  | with_reducible refine Or.inr (Exists.intro _ (And.intro (rfl : [V.bl _] = [V.bl _]) ?_))
  | with_reducible refine Exists.intro _ (Exists.intro _ (And.intro (rfl : [V.int _, V.int _] = [V.int _, V.int _]) ?_))
  | with_reducible refine Exists.intro _ (Exists.intro _ (And.intro (rfl : [V.ref _] = [V.ref _]) (And.intro (Or.inl (SqL.of (by assumption))) ?_)))
  | with_reducible refine i_rI (show (0 : Int) < _ by assumption) ?_ | with_reducible refine i_rI (show (0 : Int) < _ by decide) ?_
  | with_reducible refine i_rI (pow_ok (Nat.le_of_ble_eq_true rfl) (Nat.le_of_ble_eq_true rfl)) ?_
  | with_reducible refine i_rI (cmulL rfl) ?_))
/-! ### behind a step -/
theorem keys_ex {R : List Int → Prop} : ∀ {kvs : List (List Key × V)}, (∀ p, p ∈ kvs → ∃ ns, p.1 = kk ns ∧ R ns) → ∃ nss, keysIn kvs nss ∧ ∀ ns, ns ∈ nss → R ns
  | [], _ => ⟨[], rfl, fun _ h => absurd h List.not_mem_nil⟩
  | p :: kvs, h => by
    obtain ⟨ns, e, r⟩ := h p List.mem_cons_self
    obtain ⟨nss, e2, r2⟩ := keys_ex (kvs := kvs) fun q hq => h q (List.mem_cons_of_mem _ hq)
    refine ⟨ns :: nss, ?_, fun m hm => ?_⟩
    · show p.1 :: kvs.map (·.1) = kk ns :: nss.map kk
      rw [e, e2]
    · rcases List.mem_cons.mp hm with rfl | hm
      · exact r
      · exact r2 m hm
theorem keys_all {R : List Int → Prop} {kvs : List (List Key × V)} {nss : List (List Int)} (e : keysIn kvs nss) (h : ∀ ns, ns ∈ nss → R ns) : ∀ p, p ∈ kvs → ∃ ns, p.1 = kk ns ∧ R ns := fun p hp => by
  have m : p.1 ∈ kvs.map (·.1) := List.mem_map.mpr ⟨p, hp, rfl⟩
  rw [e] at m
  obtain ⟨ns, mn, en⟩ := List.mem_map.mp m
  exact ⟨ns, en.symm, h ns mn⟩
theorem mem_put {kvs : List (List Key × V)} {k : List Key} {v : V} {p : List Key × V} (h : p ∈ putK kvs k v) : p.1 = k ∨ ∃ q, q ∈ kvs ∧ q.1 = p.1 := by
  unfold putK at h
  split at h
  · obtain ⟨q, hq, e⟩ := List.mem_map.mp h
    refine .inr ⟨q, hq, ?_⟩
    rw [← e]
    split <;> rfl
  · rcases List.mem_append.mp h with h | h
    · exact .inr ⟨p, h, rfl⟩
    · rw [List.mem_singleton.mp h]
      exact .inl rfl
theorem put_nd {kvs : List (List Key × V)} {k : List Key} {v : V} (h : (kvs.map (·.1)).Nodup) : ((putK kvs k v).map (·.1)).Nodup := by
  unfold putK
  split
  · rw [List.map_map]
    have e : ((fun x : List Key × V => x.1) ∘ fun kv : List Key × V => if kv.1 = k then (kv.1, v) else kv) = fun x => x.1 := funext fun x => by
      show (if x.1 = k then (x.1, v) else x).1 = x.1
      split <;> rfl
    rw [e]
    exact h
  · rename_i na
    rw [List.map_append, List.nodup_append]
    refine ⟨h, by simp, fun a ha b hb e => ?_⟩
    have hb' : b = k := by simpa using hb
    obtain ⟨p, hp, ep⟩ := List.mem_map.mp ha
    exact na (List.any_eq_true.mpr ⟨p, hp, decide_eq_true (ep.trans (e.trans hb'))⟩)
theorem drop_nd {kvs : List (List Key × V)} {k : List Key} (h : (kvs.map (·.1)).Nodup) : ((dropK kvs k).map (·.1)).Nodup := by
  unfold dropK
  exact List.Pairwise.sublist (List.Sublist.map _ List.filter_sublist) h
theorem chg_val (H : Hp) (z : Tw) (w : Str) (ns m : List Int) (y : V) (b : Addr) : valV (chg H z w ns y b).kvs (kk m) = if m = ns then (if w = "delete" then none else some y) else valV z.kvs (kk m) := by
  unfold chg
  dsimp only
  by_cases e : m = ns
  · subst e
    rw [if_pos rfl]
    split
    · exact drop_self
    · rw [valV_put, if_pos rfl]
  · rw [if_neg e]
    have e2 : ¬ kk m = kk ns := fun q => e (kk_inj q)
    split
    · exact valV_dropN e2 _
    · rw [valV_put, if_neg e2]
theorem osAft_in {os : List (List Key × V)} {po pn : List (Str × Int)} {b : Addr} {q : Str × Int} (h : q ∈ pn) : valV (osAft os po pn b) (kp q) = some (.ref b) := valV_putIn (.inr ⟨q, h, rfl⟩)
theorem osAft_out {os : List (List Key × V)} {po pn : List (Str × Int)} {b : Addr} {k : List Key} (h : ∀ q, q ∈ pn → kp q ≠ k) (h2 : ∃ q, q ∈ po ∧ kp q = k) : valV (osAft os po pn b) k = none := by
  unfold osAft
  rw [valV_putF h]
  exact valV_dropIn (.inr h2)
theorem osAft_old {os : List (List Key × V)} {po pn : List (Str × Int)} {b : Addr} {k : List Key} (h : ∀ q, q ∈ pn → kp q ≠ k) (h2 : ∀ q, q ∈ po → kp q ≠ k) : valV (osAft os po pn b) k = valV os k := by
  unfold osAft
  rw [valV_putF h, valV_dropF h2]
theorem wordS_del {t : Tb} {r : Fi.Tr} {f : Fn} {g : Gn} {s : Stp} (ok : StepOk t r f g s) : wordS s = "delete" ↔ s.new = none := by
  unfold wordS
  by_cases ho : s.old = none
  · rw [if_pos ho]
    exact ⟨fun e => absurd e (by decide), fun e => absurd e (ok.ins ho).1⟩
  · rw [if_neg ho]
    by_cases hn : s.new = none
    · rw [if_pos hn]
      exact ⟨fun _ => hn, fun _ => rfl⟩
    · rw [if_neg hn]
      exact ⟨fun e => absurd e (by decide), fun e => absurd e hn⟩
section
variable {U C D : Addr} {H H' : Hp} {t : Tb} {r : Fi.Tr} {d : TD} {f : Fn} {g : Gn} {n m : Nat}
theorem Mod.next (h : Mod U C D H t r d f g n m) {s : Stp} (ok : StepOk t r f g s) (hn : ∀ p, s.new = some p → H p.1 = some (.tup p.2)) {w : Str} {y : V} (ew : w = wordS s) (ey : (if w = "delete" then .non else y) = vOf s.new) {b : Addr}
    (o : OffT d.x d.k d.o d.s H H') (tr : Tru U C D H' d.x d.k d.o d.s (chg H d.z w s.ns y b)) (hb : H' b = some (.tup (s.ns.map V.int))) :
    ∃ nss', Mod U C D H' t r ⟨d.x, d.k, d.o, d.s, chg H d.z w s.ns y b, nss'⟩ (stepF f s) (stepG g s n) (n + 1) (m + 1) := by
  have sp := h.tr.spot
  have dw : w = "delete" ↔ s.new = none := by
    rw [ew]
    exact wordS_del ok
  have tup : ∀ a us, H a = some (.tup us) → H' a = some (.tup us) := fun a us e => o.tup sp e
  obtain ⟨nss', ki, kz⟩ : ∃ nss', keysIn (chg H d.z w s.ns y b).kvs nss' ∧ ∀ m, m ∈ nss' → m.length = t.ks.length ∧ Tiny m := keys_ex fun q hq => by
    have all := keys_all h.ki h.kz
    unfold chg at hq
    dsimp only at hq
    split at hq
    · exact all q (List.mem_filter.mp hq).1
    · rcases mem_put hq with e | ⟨q', hq', e⟩
      · exact ⟨s.ns, e, ok.len, ok.tiny⟩
      · rw [← e]
        exact all q' hq'
  have n0 : (d.z.kvs.map (·.1)).Nodup := by
    rw [h.ki]
    exact List.pairwise_map.mpr (h.nd.imp fun a b => a (kk_inj b))
  have n1 : ((chg H d.z w s.ns y b).kvs.map (·.1)).Nodup := by
    unfold chg
    dsimp only
    split
    · exact drop_nd n0
    · exact put_nd n0
  have n2 : (nss'.map kk).Nodup := by
    have e : (chg H d.z w s.ns y b).kvs.map (·.1) = nss'.map kk := ki
    rw [← e]
    exact n1
  have eo : (chg H d.z w s.ns y b).os = osAft d.z.os (places t (ctn H (vOf (f s.ns)))) (places t (ctn H (vOf s.new))) b := by
    unfold chg
    dsimp only
    rw [ey, h.old, h.zt]
  have inN : ∀ q, q ∈ places t (ctn H (vOf s.new)) ↔ ∃ p, s.new = some p ∧ q ∈ places t p.2 := fun q => by
    cases e : s.new with
    | none =>
      rw [show ctn H (vOf none) = [] from rfl, show places t [] = [] from pls_nil _ _]
      exact ⟨fun z => absurd z List.not_mem_nil, fun ⟨_, z, _⟩ => nomatch z⟩
    | some p =>
      rw [show vOf (some p) = .ref p.1 from rfl, ctn_at (hn p e)]
      exact ⟨fun z => ⟨p, rfl, z⟩, fun ⟨p', e', z⟩ => by cases e'; exact z⟩
  have inO : ∀ q, q ∈ places t (ctn H (vOf (f s.ns))) ↔ ∃ p, f s.ns = some p ∧ q ∈ places t p.2 := fun q => by
    cases e : f s.ns with
    | none =>
      rw [show ctn H (vOf none) = [] from rfl, show places t [] = [] from pls_nil _ _]
      exact ⟨fun z => absurd z List.not_mem_nil, fun ⟨_, z, _⟩ => nomatch z⟩
    | some p =>
      rw [show vOf (some p) = .ref p.1 from rfl, ctn_at (h.fr _ p e).1]
      exact ⟨fun z => ⟨p, rfl, z⟩, fun ⟨p', e', z⟩ => by cases e'; exact z⟩
  refine ⟨nss', tr, h.zt, h.zr, ki, (List.pairwise_map.mp n2).imp fun a b => a (by rw [b]), kz, by show d.z.n + 1 = n + 1; rw [h.zn], fun m' => ?_, fun m' p e => ?_, fun m' => ?_, fun k v e => ?_, fun m' p q e hq => ?_, fun k v e => ?_, ?_, ?_, ?_⟩
  · show valV (chg H d.z w s.ns y b).kvs (kk m') = _
    rw [chg_val]
    unfold stepF
    by_cases em : m' = s.ns
    · rw [if_pos em, if_pos em]
      cases e : s.new with
      | none => rw [if_pos (dw.mpr e)]; rfl
      | some p =>
        have hd : ¬ w = "delete" := fun z => by rw [dw.mp z] at e; cases e
        rw [if_neg hd] at ey
        rw [if_neg hd, ey, e]
        rfl
    · rw [if_neg em, if_neg em, h.fv]
  · unfold stepF at e
    by_cases em : m' = s.ns
    · rw [if_pos em] at e
      rw [em]
      exact ⟨tup _ _ (hn p e), (ok.row p e).1⟩
    · rw [if_neg em] at e
      exact ⟨tup _ _ (h.fr _ p e).1, (h.fr _ p e).2⟩
  · show valV (putK d.z.sts (kk s.ns) (.int ((d.z.n + 1 : Nat) : Int))) (kk m') = _
    rw [valV_put]
    unfold stepG
    by_cases em : m' = s.ns
    · rw [if_pos (by rw [em]), if_pos em, h.zn]
      rfl
    · rw [if_neg (fun z => em (kk_inj z)), if_neg em, h.gv]
  · have e' : valV (putK d.z.sts (kk s.ns) (.int ((d.z.n + 1 : Nat) : Int))) k = some v := e
    rw [valV_put] at e'
    split at e'
    · cases e'
      exact ⟨d.z.n + 1, rfl, by omega⟩
    · exact h.so _ _ e'
  · show ∃ b', valV (chg H d.z w s.ns y b).os (kp q) = some (.ref b') ∧ _
    rw [eo]
    unfold stepF at e
    by_cases em : m' = s.ns
    · rw [if_pos em] at e
      exact ⟨b, osAft_in ((inN q).mpr ⟨p, e, hq⟩), by rw [em]; exact hb⟩
    · rw [if_neg em] at e
      obtain ⟨b', eb, hb'⟩ := h.o1 m' p q e hq
      refine ⟨b', ?_, tup _ _ hb'⟩
      rw [osAft_old ?_ ?_]
      · exact eb
      · intro q' hq' ek
        rw [kp_inj ek] at hq'
        obtain ⟨p', ep', hp'⟩ := (inN q).mp hq'
        exact (ok.row p' ep').2 ⟨m', p, em, e, q, hp', hq⟩
      · intro q' hq' ek
        rw [kp_inj ek] at hq'
        obtain ⟨p', ep', hp'⟩ := (inO q).mp hq'
        obtain ⟨b2, eb2, hb2⟩ := h.o1 s.ns p' q ep' hp'
        rw [eb] at eb2
        cases eb2
        rw [hb'] at hb2
        exact em (ints_inj (HO.tup.inj (Option.some.inj hb2)))
  · have e' : valV (chg H d.z w s.ns y b).os k = some v := e
    rw [eo] at e'
    by_cases hN : ∃ q, q ∈ places t (ctn H (vOf s.new)) ∧ kp q = k
    · obtain ⟨q, hq, rfl⟩ := hN
      rw [osAft_in hq] at e'
      cases e'
      obtain ⟨p, ep, hp⟩ := (inN q).mp hq
      exact ⟨b, s.ns, p, q, rfl, hb, rfl, by unfold stepF; rw [if_pos rfl]; exact ep, hp⟩
    · have hN' : ∀ q, q ∈ places t (ctn H (vOf s.new)) → kp q ≠ k := fun q a b => hN ⟨q, a, b⟩
      by_cases hO : ∃ q, q ∈ places t (ctn H (vOf (f s.ns))) ∧ kp q = k
      · rw [osAft_out hN' hO] at e'
        cases e'
      · have hO' : ∀ q, q ∈ places t (ctn H (vOf (f s.ns))) → kp q ≠ k := fun q a b => hO ⟨q, a, b⟩
        rw [osAft_old hN' hO'] at e'
        obtain ⟨b', m', p, q, rfl, hb', rfl, ef, hq⟩ := h.o2 _ _ e'
        refine ⟨b', m', p, q, rfl, tup _ _ hb', rfl, ?_, hq⟩
        unfold stepF
        rw [if_neg (fun z => ?_)]
        · exact ef
        · rw [z] at ef
          exact hO' q ((inO q).mpr ⟨p, ef, hq⟩) rfl
  · show (chg H d.z w s.ns y b).kvs.length ≤ m + 1
    have := h.lk
    unfold chg
    dsimp only
    split
    · exact Nat.le_trans (List.length_filter_le _ _) (by omega)
    · have := put_len d.z.kvs (kk s.ns) y
      omega
  · show (putK d.z.sts (kk s.ns) (.int ((d.z.n + 1 : Nat) : Int))).length ≤ m + 1
    have := h.ls
    have := put_len d.z.sts (kk s.ns) (.int ((d.z.n + 1 : Nat) : Int))
    omega
  · show (chg H d.z w s.ns y b).os.length ≤ 4 * (m + 1)
    rw [eo]
    have a1 := osAft_len d.z.os (places t (ctn H (vOf (f s.ns)))) (places t (ctn H (vOf s.new))) b
    have a2 : (places t (ctn H (vOf s.new))).length ≤ t.us.length := pls_len _ _ _
    have a3 : t.us.length ≤ 4 := by
      rw [← h.zt]
      exact h.tr.ok.uz
    have a4 := h.lo
    omega
end
/-! ### steps back -/
def Uniq (t : Tb) (f : Fn) : Prop := ∀ m m' p p', m ≠ m' → f m = some p → f m' = some p' → ¬ Shares t p.2 p'.2
theorem Shares.symm {t : Tb} {us vs : List V} (h : Shares t us vs) : Shares t vs us := by
  obtain ⟨q, a, b⟩ := h
  exact ⟨q, b, a⟩
theorem Uniq.next {t : Tb} {r : Fi.Tr} {f : Fn} {g : Gn} {s : Stp} (u : Uniq t f) (ok : StepOk t r f g s) : Uniq t (stepF f s) := by
  intro m m' p p' ne e1 e2 sh
  unfold stepF at e1 e2
  by_cases h1 : m = s.ns
  · have h2 : ¬ m' = s.ns := fun z => ne (h1.trans z.symm)
    rw [if_pos h1] at e1
    rw [if_neg h2] at e2
    exact (ok.row p e1).2 ⟨m', p', h2, e2, sh⟩
  · rw [if_neg h1] at e1
    by_cases h2 : m' = s.ns
    · rw [if_pos h2] at e2
      exact (ok.row p' e2).2 ⟨m, p, h1, e1, sh.symm⟩
    · rw [if_neg h2] at e2
      exact u m m' p p' ne e1 e2 sh
/-- the rows are rows of their keys -/
def KeyRows (t : Tb) (f : Fn) : Prop := ∀ m p, f m = some p → KeyRow t m p.2
theorem KeyRows.next {t : Tb} {r : Fi.Tr} {f : Fn} {g : Gn} {s : Stp} (u : KeyRows t f) (ok : StepOk t r f g s) : KeyRows t (stepF f s) := by
  intro m p e
  unfold stepF at e
  by_cases h1 : m = s.ns
  · rw [if_pos h1] at e
    rw [h1]
    exact (ok.row p e).1
  · rw [if_neg h1] at e
    exact u m p e
def back (s : Stp) : Stp := ⟨s.ns, s.new, s.old⟩
theorem StepOk.back {t : Tb} {r : Fi.Tr} {f : Fn} {g g' : Gn} {s : Stp} (ok : StepOk t r f g s) (u : Uniq t f) (kr : KeyRows t f) (tr : t.r = true) : StepOk t r (stepF f s) g' (back s) := by
  have at_ : stepF f s s.ns = s.new := by
    unfold stepF
    rw [if_pos rfl]
  refine ⟨ok.reg, ok.len, ok.tiny, at_.symm, fun p e => ?_, fun e => ⟨fun e2 => (ok.ins e2).1 e, fun z => by rw [tr] at z; cases z⟩, fun o p e1 e2 => (ok.upd p o e2 e1).symm⟩
  have eo : f s.ns = some p := ok.old.symm.trans e
  refine ⟨kr _ _ eo, fun ⟨m, p', ne, ef, sh⟩ => ?_⟩
  have ef' : f m = some p' := by
    unfold stepF at ef
    rw [if_neg (show ¬ m = s.ns from ne)] at ef
    exact ef
  exact u _ _ _ _ (Ne.symm ne) eo ef' sh
theorem step_back {t : Tb} {r : Fi.Tr} {f : Fn} {g : Gn} {s : Stp} (ok : StepOk t r f g s) : stepF (stepF f s) (back s) = f := by
  funext m
  show (if m = s.ns then s.old else (if m = s.ns then s.new else f m)) = f m
  by_cases h : m = s.ns
  · rw [if_pos h, h]
    exact ok.old
  · rw [if_neg h, if_neg h]
/-- steps that can be made one behind the other -/
inductive Steps (t : Tb) (r : Fi.Tr) : List Stp → Prop
  | nil : Steps t r []
  | snoc {ss : List Stp} {s : Stp} : Steps t r ss → StepOk t r (fOf ss) (gOf ss) s → Steps t r (ss ++ [s])
theorem Steps.uniq {t : Tb} {r : Fi.Tr} {ss : List Stp} (h : Steps t r ss) : Uniq t (fOf ss) ∧ KeyRows t (fOf ss) := by
  induction h with
  | nil => exact ⟨fun _ _ _ _ _ e => (nomatch e), fun _ _ e => (nomatch e)⟩
  | snoc _ ok ih =>
    rw [fOf_snoc]
    exact ⟨ih.1.next ok, ih.2.next ok⟩
theorem snoc_inj {ss ss' : List Stp} {s s' : Stp} (h : ss ++ [s] = ss' ++ [s']) : ss = ss' ∧ s = s' := by
  have := List.append_inj' h rfl
  exact ⟨this.1, (List.cons.inj this.2).1⟩
theorem Steps.last {t : Tb} {r : Fi.Tr} {ss : List Stp} {s : Stp} (h : Steps t r (ss ++ [s])) : Steps t r ss ∧ StepOk t r (fOf ss) (gOf ss) s := by
  generalize e : ss ++ [s] = l at h
  cases h with
  | nil => simp at e
  | snoc a b =>
    obtain ⟨rfl, rfl⟩ := snoc_inj e
    exact ⟨a, b⟩
theorem Steps.take {t : Tb} {r : Fi.Tr} {ss : List Stp} (h : Steps t r ss) : ∀ i, Steps t r (ss.take i) := by
  induction h with
  | nil => intro i; rw [List.take_nil]; exact .nil
  | @snoc ss s a b ih =>
    intro i
    by_cases hi : i ≤ ss.length
    · rw [List.take_append_of_le_length hi]
      exact ih i
    · rw [List.take_of_length_le (by rw [List.length_append]; show ss.length + 1 ≤ i; omega)]
      exact .snoc a b
theorem Steps.at_ {t : Tb} {r : Fi.Tr} {ss : List Stp} (h : Steps t r ss) {i : Nat} {s : Stp} (e : ss[i]? = some s) : StepOk t r (fOf (ss.take i)) (gOf (ss.take i)) s := by
  have h2 := h.take (i + 1)
  rw [take_snoc e] at h2
  exact h2.last.2
end Spk

set_option Elab.async false
set_option linter.all false
set_option maxRecDepth 100000
set_option maxHeartbeats 4000000
namespace Spk
open PySem PySem.Spec PyProof.Rows L2
open PySem.AutoSeq1 (wpAny_loadPart')
/-! ## t * n of a tuple, n one or more: once it is the tuple itself -/
theorem tuple_once (l : Addr) (items : Array Value) (n : Nat) (dd : Option Addr) (sl : Array (Option Value)) (u : Tok) :
    Meets (Builtin.«tuple.__mul__» ⟨[.ref l, .int 1 u], []⟩) (fun _ R s => s.heap.get? l = some { cls := .type "tuple", dict := dd, data := .seq items n, slots := sl } ∧ R (.ok (.ret (.ref l))) s) :=
  .of_wp fun prog w A R s h => by
    obtain ⟨hp, g, d, tk, os⟩ := s
    obtain ⟨hl, h⟩ := h
    have f1 := AutoSeq1.idx_int
    wp_walk using wpAny_loadPart' hl
    exact ⟨_, rfl, h⟩
def rTimes : R2 := fun x y H Q => ∃ (l : Addr) (k : Nat) (xs : List V), x = .ref l ∧ y = .int (k : Int) ∧ H l = some (.tup xs) ∧ xs ≠ [] ∧ 1 ≤ k ∧ k ≤ 1000 ∧ xs.length ≤ 1000 ∧ ∀ p H', Same H H' → H' p = some (.tup (List.replicate k xs).flatten) → Q (.ref p) H'
theorem op_times {X : Cx} : OpR X (binaryOp .Mult) rTimes := by
  intro pins s σ H x y v u Q I rx ry h
  obtain ⟨l, k, xs, rfl, rfl, hT, hne, h1, h2, hz, q⟩ := h
  by_cases hk : k = 1
  · subst hk
    cases rx
    obtain ⟨t, rfl⟩ := ry
    obtain ⟨its, r, ⟨⟨cls, dd, data, sl⟩, ho, hc, n, hd⟩, hs⟩ := I.tuple (SqT.of hT)
    simp only at hc hd
    subst hc hd
    refine wpAny_binaryOp_repeat_ref (T := "tuple") (U := "int") (by decide) ⟨_, ho, rfl⟩ (fun s' => typeIs_int s' _ t) noFill_tuple_mul F.fills_int_mul F.slot_int_rmul repeat_tuple F.slot_int_index.lookup
      (call_meets F.slot_int_rmul (typeIs_int s _ t) F.entry_int_rmul (F.args_int_rmul_2 _ _) (int_rmul_tuple _ t l its.toArray n dd sl)
        ⟨ho, rfl, ⟨_, ho, rfl⟩, call_meets F.slot_tuple_mul ⟨_, ho, rfl⟩ F.entry_tuple_mul (F.args_tuple_mul_2 _ _) (tuple_once l its.toArray n dd sl t) ⟨ho, ?_⟩⟩)
    refine ⟨.ref l, H, I, rfl, q l H (Same.refl H) ?_⟩
    rw [hT, List.replicate_one, List.flatten_cons, List.flatten_nil, List.append_nil]
  · refine op_repT pins s σ H _ _ v u Q I rx ry ⟨l, (k : Int), xs, rfl, rfl, SqT.of hT, hne, by omega, by omega, hz, fun p hp => ?_⟩
    obtain ⟨H1, e1, s1, h1'⟩ := new_heap (o := .tup (List.replicate k xs).flatten) hp
    rw [Int.toNat_natCast, e1]
    exact q p H1 s1 h1'
end Spk

set_option Elab.async false
set_option linter.all false
set_option maxRecDepth 100000
set_option maxHeartbeats 4000000
namespace Spk
open PySem L2
local macro_rules | `(tactic| walk_at "rd") => `(tactic| repeat (first
  | with_reducible refine i_seq ?_ | with_reducible refine i_asg ?_ | with_reducible refine i_ret ?_ | with_reducible refine i_ifS ?_ | with_reducible refine i_if ?_
  | with_reducible refine i_for ?_ | with_reducible refine i_iL ?_ | with_reducible refine i_iT ?_ | with_reducible refine i_ckw ?_ | with_reducible refine i_cm ?_ | with_reducible refine And.intro (rfl : V.ref _ = V.ref _) ?_ | with_reducible refine i_rng1 ?_ | with_reducible refine i_bm ?_ | with_reducible refine i_bm0 ?_
  | with_reducible refine i_drop ?_ | with_reducible refine i_next ?_
  | with_reducible refine i_var rfl ?_ | with_reducible refine i_c ?_ | with_reducible refine i_op ?_ | with_reducible refine i_un ?_ | with_reducible refine i_name ?_
  | with_reducible refine i_rI0 ?_ | with_reducible refine i_rU ?_ | with_reducible refine i_rEq rfl ?_ | with_reducible refine i_rNe rfl ?_
  | with_reducible refine i_test ?_ | with_reducible refine i_tB ?_ | with_reducible refine i_and ?_ | with_reducible refine i_or ?_ | with_reducible refine i_not ?_
  | with_reducible refine i_andV ?_ | with_reducible refine i_orV ?_ | with_reducible refine i_notV ?_
  | with_reducible refine i_cons ?_ | with_reducible refine i_nil ?_ | with_reducible refine i_cb ?_ | with_reducible refine i_call ?_ | with_reducible refine i_bl ?_
  | with_reducible refine i_tup ?_ | with_reducible refine i_lst ?_ | with_reducible refine i_par ?_ | with_reducible refine i_gcons ?_ | with_reducible refine i_gnil ?_
  | with_reducible refine And.intro (rfl : V.non = V.non) ?_ | with_reducible refine i_ixT (by assumption) rfl ?_ | with_reducible refine i_ixL (by assumption) rfl ?_ | with_reducible refine i_gtup (by assumption) rfl ?_
  | with_reducible refine i_gsub ?_
  | with_reducible refine Or.inl (Exists.intro _ (And.intro (rfl : [V.int _] = [V.int _]) ?_)) | with_reducible refine Exists.intro _ (And.intro (rfl : [V.int _] = [V.int _]) ?_)
  | with_reducible refine Or.inr (Exists.intro _ (And.intro (rfl : [V.bl _] = [V.bl _]) ?_))
  | with_reducible refine Exists.intro _ (Exists.intro _ (And.intro (rfl : [V.int _, V.int _] = [V.int _, V.int _]) ?_))
  | with_reducible refine Exists.intro _ (Exists.intro _ (And.intro (rfl : [V.ref _] = [V.ref _]) (And.intro (Or.inl (SqL.of (by assumption))) ?_)))
  | with_reducible refine i_rI (show (0 : Int) < _ by assumption) ?_ | with_reducible refine i_rI (show (0 : Int) < _ by decide) ?_
  | with_reducible refine i_rI (pow_ok (Nat.le_of_ble_eq_true rfl) (Nat.le_of_ble_eq_true rfl)) ?_
  | with_reducible refine i_rI (cmulL rfl) ?_))
/-! ### the law's regions, keys and rows -/
theorem item_at {K : PySem.W.Frag} {H : Hp} {l : Addr} {xs : List V} {d : Int} {Q : VK} (h : H l = some (.lst xs)) (h0 : 0 ≤ d) (h1 : d < xs.length) (q : ∀ v, v ∈ xs → Q v H) : rIxL K (.ref l) (.int d) H Q := by
  obtain ⟨j, rfl⟩ : ∃ j : Nat, d = (j : Int) := ⟨d.toNat, by omega⟩
  have hj : j < xs.length := by omega
  exact i_ixL h (atI_nat (List.getElem?_eq_getElem hj)) (q _ (List.getElem_mem hj))
/-- the classes Ranges and Filter, as the law calls them -/
structure ClsRg (K : PySem.W.Frag) (C : Addr) (mc : Value) (pb po gb go : Addr) : Prop where
  rd : ClX.CRead K C mc
  between : ClX.CMet K C mc "between" pb gb
  of : ClX.CMet K C mc "of" po go
structure ClsFg (K : PySem.W.Frag) (D : Addr) (mc : Value) (pw pa gw ga fA fV : Addr) : Prop where
  rd : ClX.CRead K D mc
  within : ClX.CMet K D mc "within" pw gw
  always : ClX.CMet K D mc "always" pa ga
  self : PySem.W.selfFirst K D = true
  andF : PySem.W.findIn K (.ref D) "__and__" = some (some (.ref fA))
  andI : PySem.W.isFn K (.ref fA) = true
  invF : PySem.W.findIn K (.ref D) "__invert__" = some (some (.ref fV))
  invI : PySem.W.isFn K (.ref fV) = true
/-- whether a key is in a region of these bounds and this hole -/
def insB (lo hi hole : Option Int) (ns : List Int) : Bool := has1 (lo, hi) (ns.headD 0) && (decide (ns.length = 1) || (hole.isNone || !decide (hole = some (ns.getD 1 0))))
theorem opt_of {v : V} {xs : List (Option Int)} (h : v ∈ xs.map ov) : ∃ o, v = ov o := by
  obtain ⟨o, _, rfl⟩ := List.mem_map.mp h
  exact ⟨o, rfl⟩
theorem rho_0 {k : Str} {ks : List Str} {n : Int} {ns : List Int} : rhoK (k :: ks) (n :: ns) k = some n := by
  unfold rhoK
  rw [List.zip_cons_cons, List.lookup_cons_self]
theorem rho_1 {k j : Str} {n m : Int} (h : k ≠ j) : rhoK [k, j] [n, m] j = some m := by
  unfold rhoK
  have b : (j == k) = false := by simpa using Ne.symm h
  rw [List.zip_cons_cons, List.lookup_cons, b, List.zip_cons_cons, List.lookup_cons_self]
section
variable {P : Program} {w : World} {K : PySem.W.Frag} {mg : Str → Option Value} {base : Heap} {C D R : Addr} {mr md : Value} {pb po gb go pw pa gw ga hA hV : Addr}
abbrev s_region : Stmt := top 43
theorem sc_region : FnScope ["_law_pen_here", "_law_keyed", "_law_low", "_law_high", "_law_hole", "_law_made"] ["_law_pen_here", "_law_keyed"] (defScope s_region) := ⟨rfl, rfl, rfl, by decide +kernel, rfl, by decide +kernel, by decide +kernel⟩
/-- a region as the law keeps it -/
def RegAt (D : Addr) (H : Hp) (g : Addr) (ks : List Str) (lo hi hole : Option Int) (f : Addr) (r : Fi.Tr) : Prop := H g = some (.lst [.ref f, ov lo, ov hi, ov hole]) ∧ Fi.Fil D H f r ∧ (∀ c, c ∈ r.cols → c ∈ ks) ∧ r.deep ≤ 20 ∧
  ∀ ns, ns.length = ks.length → r.sem (rhoK ks ns) = some (insB lo hi hole ns)
def sp_region (D : Addr) : Sp := fun vs H Q _ => ∃ p L n l, ∃ ks : List Str, vs = [.ref p, .ref l] ∧ Pen H p L n ∧ n ≤ 9000 ∧ H l = some (.lst (ks.map V.str)) ∧ ks ≠ [] ∧ ks.length ≤ 2 ∧ ks.Nodup ∧
  ∀ g H' lo hi hole f r, Keep H H' → Pen H' p L (n + 3) → RegAt D H' g ks lo hi hole f r → Q (.ref g) H'
theorem ok_region {f fD : Addr} {fd fdD : FuncData} (F : Fun K "_law_region" "_law_region" s_region f fd) (g_CF : mg "Filter" = some (.ref D)) (g_R : mg "Ranges" = some (.ref R)) (CM : ClsRg K R mr pb po gb go) (CF : ClsFg K D md pw pa gw ga hA hV)
    (F_draw : Fun K "_law_draw" "_law_draw" s_draw fD fdD) (B_draw : Binds K fdD ["_law_pen_here", "_law_many"] []) (g_draw : mg "_law_draw" = some (.ref fD)) (G_draw : FnOk P w K mg base CX0 1 fD fdD ["_law_pen_here", "_law_many"] sp_draw)
    (R_between : FnR P w K mg base CX0 3 gb (fun vs H Q E => Fi.sp_between R (vs ++ []) H Q E)) (R_of : FnR P w K mg base CX0 5 go (Fi.sp_of R))
    (RF_within : FnR P w K mg base CX0 3 gw (fun vs H Q E => Fi.sp_fwithin R D (vs ++ []) H Q E)) (RF_always : FnR P w K mg base CX0 3 ga (fun vs H Q E => Fi.sp_falways D (vs ++ []) H Q E))
    (RF_and : FnR P w K mg base CX0 3 hA (fun vs H Q E => Fi.sp_fand D (vs ++ []) H Q E)) (RF_inv : FnR P w K mg base CX0 3 hV (fun vs H Q E => Fi.sp_finv D (vs ++ []) H Q E)) (z_len : mg "len" = none) :
    FnOk P w K mg base CX0 6 f fd ["_law_pen_here", "_law_keyed"] (sp_region D) := by
  refine F.ok sc_region (fun vs H Q E h => ?_) (fun cdv A outer s H vs Q E hr h => ?_)
  · obtain ⟨p, L, n, l, ks, rfl, _⟩ := h
    rfl
  · obtain ⟨p, L, n, l, ks, rfl, hp, hn, hl, k0, kz, kn, q⟩ := h
    refine ⟨_, (pss_cons (ps_set (i := 2) sc_region.nd rfl (Or.inl rfl) (pe_ix ix_list (pe_lst (pa_cons pe_non (pa_cons pe_non (pa_cons pe_int (pa_cons pe_int pa_nil))))) (pe_call G_draw (hr.mono (by decide)) rfl g_draw F_draw.kp B_draw .nil pass0 (pa_cons (pv 0) (pa_cons pe_int pa_nil))) (fun _ _ => rfl)))
 (pss_cons (ps_set (i := 3) sc_region.nd rfl (Or.inl rfl) (pe_ix ix_list (pe_lst (pa_cons pe_non (pa_cons pe_non (pa_cons pe_int (pa_cons (pe_op op_pow pe_int pe_int) pa_nil))))) (pe_call G_draw (hr.mono (by decide)) rfl g_draw F_draw.kp B_draw .nil pass0 (pa_cons (pv 0) (pa_cons pe_int pa_nil))) (fun _ _ => rfl)))
 (pss_cons (ps_set (i := 4) sc_region.nd rfl (Or.inl rfl) (pe_ix ix_list (pe_lst (pa_cons pe_non (pa_cons pe_int pa_nil))) (pe_call G_draw (hr.mono (by decide)) rfl g_draw F_draw.kp B_draw .nil pass0 (pa_cons (pv 0) (pa_cons pe_int pa_nil))) (fun _ _ => rfl)))
 (pss_cons (ps_set (i := 5) sc_region.nd rfl (Or.inl rfl) (ClX.pe_cmeth (pe_glob rfl g_CF (relR _)) CF.rd CF.within RF_within (hr.mono (by decide)) pass0 (pa_cons (pe_ix ix_list (pv 1) pe_int (fun _ _ => rfl)) (pa_cons (ClX.pe_cmeth (pe_glob rfl g_R (relR _)) CM.rd CM.between R_between (hr.mono (by decide)) pass0 (pa_cons (pv 2) (pa_cons (pv 3) pa_nil))) pa_nil))))
 (C8.pss_cut (ps_if (PW.pt (pw_and (pt_cmpR op_isN (pv 2) pe_non (nomark _)) (pw_and1 (pt_cmpR op_isN (pv 3) pe_non (nomark _)))))
 (pss_one (ps_set (i := 5) sc_region.nd rfl (Or.inl rfl) (pe_cmeth0 (pe_glob rfl g_CF (relR _)) CF.rd CF.always RF_always (hr.mono (by decide)) pass0)))
 pss_nil)
 (C8.pss_cut (ps_if (PW.pt (pw_and (pt_cmpR op_notN (pv 4) pe_non (nomark _)) (pw_and1 (pt_cmpR op_eq (pe_callB call_len_seq (by rfl) z_len PySem.boot_len (pa_cons (pv 1) pa_nil)) pe_int (nomark _)))))
 (pss_one (ps_set (i := 5) sc_region.nd rfl (Or.inl rfl) (pe_op (op_own (op := .BitAnd) RF_and (hr.mono (by decide)) CF.self CF.andF CF.andI) (pv 5) (pe_un (un_own RF_inv (hr.mono (by decide)) CF.invF CF.invI) (ClX.pe_cmeth (pe_glob rfl g_CF (relR _)) CF.rd CF.within RF_within (hr.mono (by decide)) pass0 (pa_cons (pe_ix ix_list (pv 1) pe_int (fun _ _ => rfl)) (pa_cons (ClX.pe_cmeth (pe_glob rfl g_R (relR _)) CM.rd CM.of R_of (hr.mono (by decide)) pass0 (pa_cons (pv 4) pa_nil)) pa_nil)))))))
 pss_nil)
 (pss_one (ps_ret (pe_lst (pa_cons (pv 5) (pa_cons (pv 2) (pa_cons (pv 3) (pa_cons (pv 4) pa_nil))))))))))))), ?_⟩
    obtain ⟨ka, kr, rfl⟩ : ∃ ka kr, ks = ka :: kr := by
      cases ks with
      | nil => exact absurd rfl k0
      | cons a b => exact ⟨a, b, rfl⟩
    have wi : ∀ (ps : List Stc) (c : Str) (ρ : Str → Option Int) (n : Int), ρ c = some n → (Fi.Tr.wi c ps).sem ρ = some (hasL ps n) := fun ps c ρ n e => by
      show Fi.wi3 ps (ρ c) = _
      rw [e]
      rfl
    walk_at "rd"
    refine ⟨size_of (Nat.le_of_ble_eq_true rfl), fun l1 hl1 => ?_⟩
    obtain ⟨H1, e1, s1, h1⟩ := new_heap (o := .lst [.non, .non, .int 0, .int 1]) hl1
    rw [e1]
    walk_at "rd"
    refine ⟨p, L, n, 4, rfl, hp.up s1, by omega, by decide, by decide, fun d2 H2 g0 g1 k2 p2 => ?_⟩
    refine item_at (k2 _ _ rfl h1) g0 g1 fun v hv => ?_
    obtain ⟨lo, rfl⟩ := opt_of (xs := [none, none, some 0, some 1]) hv
    walk_at "rd"
    refine ⟨size_of (Nat.le_of_ble_eq_true rfl), fun l2 hl2 => ?_⟩
    obtain ⟨H3, e3, s3, h3⟩ := new_heap (o := .lst [.non, .non, .int 3, .int (10 ^ (11 : Int).toNat)]) hl2
    rw [e3]
    walk_at "rd"
    refine ⟨p, L, _, 4, rfl, p2.up s3, by omega, by decide, by decide, fun d4 H4 g2 g3 k4 p4 => ?_⟩
    refine item_at (k4 _ _ rfl h3) g2 g3 fun v hv2 => ?_
    obtain ⟨hi, rfl⟩ := opt_of (xs := [none, none, some 3, some (10 ^ (11 : Int).toNat)]) hv2
    walk_at "rd"
    refine ⟨size_of (Nat.le_of_ble_eq_true rfl), fun l3 hl3 => ?_⟩
    obtain ⟨H5, e5, s5, h5⟩ := new_heap (o := .lst [.non, .int 2]) hl3
    rw [e5]
    walk_at "rd"
    refine ⟨p, L, _, 2, rfl, p4.up s5, by omega, by decide, by decide, fun d6 H6 g4 g5 k6 p6 => ?_⟩
    refine item_at (k6 _ _ rfl h5) g4 g5 fun v hv3 => ?_
    obtain ⟨hole, ehole, rfl⟩ : ∃ hole : Option Int, (hole = none ∨ hole = some 2) ∧ v = ov hole := by
      rcases List.mem_cons.mp hv3 with rfl | hv3
      · exact ⟨none, .inl rfl, rfl⟩
      · rcases List.mem_cons.mp hv3 with rfl | hv3
        · exact ⟨some 2, .inr rfl, rfl⟩
        · exact absurd hv3 List.not_mem_nil
    have k06 : Keep H H6 := (((((Same.keep s1).trans k2).trans (Same.keep s3)).trans k4).trans (Same.keep s5)).trans k6
    have hl6 := k06 _ _ (penny_strs _) hl
    clear h1 e1 s1 hl1 k2 p2 hv h3 e3 s3 hl2 k4 p4 hv2 h5 e5 s5 hl3 k6 hv3 g0 g1 g2 g3 g4 g5
    walk_at "rd"
    refine i_ixL hl6 (v := .str ka) (by show atI _ ((0 : Nat) : Int) = _; exact atI_nat rfl) ?_
    walk_at "rd"
    refine ⟨lo, hi, rfl, fun r H7 ps s7 hr7 hs7 hz7 => ?_⟩
    walk_at "rd"
    refine ⟨ka, r, ps, rfl, hr7, fun f1 H8 s8 hf8 => ?_⟩
    walk_at "rd"
    have s68 : Same H6 H8 := fun b o z => s8 _ _ (s7 _ _ z)
    refine ⟨fun σ' H' => ∃ f r1, σ' = [some (.ref p), some (.ref l), some (ov lo), some (ov hi), some (ov hole), some (.ref f)] ∧ Same H6 H' ∧ Fi.Fil D H' f r1 ∧ (∀ c, c ∈ r1.cols → c = ka) ∧ r1.deep ≤ 1 ∧ r1.many ≤ 1 ∧ ∀ ρ n0, ρ ka = some n0 → r1.sem ρ = some (has1 (lo, hi) n0), ?_, ?_⟩
    · walk_at "rd"
      have keep : ∃ f r1, ([some (V.ref p), some (.ref l), some (ov lo), some (ov hi), some (ov hole), some (.ref f1)] : L2.St) = [some (.ref p), some (.ref l), some (ov lo), some (ov hi), some (ov hole), some (.ref f)] ∧ Same H6 H8 ∧ Fi.Fil D H8 f r1 ∧ (∀ c, c ∈ r1.cols → c = ka) ∧ r1.deep ≤ 1 ∧ r1.many ≤ 1 ∧ ∀ ρ n0, ρ ka = some n0 → r1.sem ρ = some (has1 (lo, hi) n0) :=
        ⟨f1, .wi ka ps, rfl, s68, hf8, fun c hc => List.mem_singleton.mp hc, Nat.le_refl _, Nat.le_refl _, fun ρ n0 e => by rw [wi ps ka ρ n0 e, hs7]⟩
      cases lo with
      | some a =>
        refine iteF ?_
        refine iteF ?_
        exact keep
      | none =>
        refine iteT ?_
        walk_at "rd"
        cases hi with
        | some b =>
          refine iteF ?_
          exact keep
        | none =>
          refine iteT ?_
          walk_at "rd"
          refine ⟨rfl, fun f2 H9 s9 hf9 => ?_⟩
          walk_at "rd"
          have c1 : ∀ c, c ∈ Fi.Tr.al.cols → c = ka := fun c hc => absurd hc List.not_mem_nil
          have c4 : ∀ (ρ : Str → Option Int) (n0 : Int), ρ ka = some n0 → Fi.Tr.al.sem ρ = some (has1 (none, none) n0) := fun ρ n0 _ => rfl
          exact ⟨f2, Fi.Tr.al, rfl, fun b o z => s9 _ _ (s68 _ _ z), hf9, c1, Nat.le_refl 1, Nat.le_refl 1, c4⟩
    · rintro σ' H9 ⟨f2, r1, rfl, s9, hf9, hc1, hd1, hm1, hs1⟩
      have p9 := p6.up s9
      have hl9 := s9 _ _ hl6
      have k09 : Keep H H9 := k06.trans (Same.keep s9)
      have base : ∀ ns : List Int, ns.length = (ka :: kr).length → (hole = none ∨ kr = []) → r1.sem (rhoK (ka :: kr) ns) = some (insB lo hi hole ns) := fun ns hn' hh => by
        obtain ⟨n0, nr, rfl⟩ : ∃ n0 nr, ns = n0 :: nr := by
          cases ns with
          | nil => simp at hn'
          | cons a b => exact ⟨a, b, rfl⟩
        rw [hs1 _ n0 rho_0]
        unfold insB
        rcases hh with rfl | rfl
        · simp
        · have : nr = [] := by simpa using hn'
          subst this
          simp
      refine ⟨fun σ' H' => ∃ f r1, σ' = [some (.ref p), some (.ref l), some (ov lo), some (ov hi), some (ov hole), some (.ref f)] ∧ Same H9 H' ∧ Fi.Fil D H' f r1 ∧ (∀ c, c ∈ r1.cols → c ∈ ka :: kr) ∧ r1.deep ≤ 20 ∧ ∀ ns, ns.length = (ka :: kr).length → r1.sem (rhoK (ka :: kr) ns) = some (insB lo hi hole ns), ?_, ?_⟩
      · walk_at "rd"
        have keep : (hole = none ∨ kr = []) → ∃ f r1, ([some (V.ref p), some (.ref l), some (ov lo), some (ov hi), some (ov hole), some (.ref f2)] : L2.St) = [some (.ref p), some (.ref l), some (ov lo), some (ov hi), some (ov hole), some (.ref f)] ∧ Same H9 H9 ∧ Fi.Fil D H9 f r1 ∧ (∀ c, c ∈ r1.cols → c ∈ ka :: kr) ∧ r1.deep ≤ 20 ∧ ∀ ns, ns.length = (ka :: kr).length → r1.sem (rhoK (ka :: kr) ns) = some (insB lo hi hole ns) :=
          fun hh => ⟨f2, r1, rfl, Same.refl _, hf9, fun c hc => by rw [hc1 c hc]; exact List.mem_cons_self, by omega, fun ns hn' => base ns hn' hh⟩
        rcases ehole with rfl | rfl
        · refine iteF ?_
          refine iteF ?_
          exact keep (.inl rfl)
        · refine iteT ?_
          walk_at "rd"
          rw [List.length_map]
          cases kr with
          | nil =>
            refine iteF ?_
            exact keep (.inr rfl)
          | cons kb kt =>
            have kt0 : kt = [] := by
              have := kz
              simp only [List.length_cons] at this
              exact List.eq_nil_of_length_eq_zero (by omega)
            subst kt0
            have kab : ka ≠ kb := fun e => by
              rw [e, List.nodup_cons] at kn
              exact kn.1 List.mem_cons_self
            refine iteT ?_
            walk_at "rd"
            refine ⟨[2], rfl, by decide, fun r3 H10 qs s10 hr10 hs10 hz10 => ?_⟩
            walk_at "rd"
            refine ⟨kb, r3, qs, rfl, hr10, fun f3 H11 s11 hf11 => ?_⟩
            walk_at "rd"
            obtain ⟨dx3, v3, q3, cs3, hx3, _⟩ := id hf11
            refine ⟨f3, dx3, _, rfl, hx3, f3, _, rfl, hf11, fun f4 H12 s12 hf12 => ?_⟩
            walk_at "rd"
            have s912 : Same H9 H12 := fun b o z => s12 _ _ (s11 _ _ (s10 _ _ z))
            have hf2' := hf9.up s912
            obtain ⟨dx2, v2, q2, cs2, hx2, _⟩ := id hf2'
            obtain ⟨dx4, v4, q4, cs4, hx4, _⟩ := id hf12
            refine ⟨f2, f4, dx2, dx4, _, _, rfl, rfl, hx2, hx4, f2, f4, r1, _, rfl, hf2', hf12, by show r1.many + 1 < 64; omega, fun f5 H13 s13 hf13 => ?_⟩
            walk_at "rd"
            refine ⟨f5, _, rfl, fun b o z => s13 _ _ (s912 _ _ z), hf13, fun c hc => ?_, ?_, fun ns hn' => ?_⟩
            · rcases List.mem_append.mp hc with hc | hc
              · rw [hc1 c hc]
                exact List.mem_cons_self
              · rw [List.mem_singleton.mp hc]
                exact List.mem_cons_of_mem _ List.mem_cons_self
            · show max r1.deep 2 + 1 ≤ 20
              omega
            · obtain ⟨n0, n1, rfl⟩ : ∃ n0 n1, ns = [n0, n1] := by
                match ns, hn' with
                | [a, b], _ => exact ⟨a, b, rfl⟩
              show Fi.and3 (r1.sem _) (Fi.not3 ((Fi.Tr.wi kb qs).sem _)) = _
              rw [hs1 _ n0 rho_0, wi qs kb _ n1 (rho_1 kab), hs10]
              have e2 : hasL (Fi.singles [2]) n1 = decide (n1 = 2) := by
                simp only [Fi.singles, List.map_cons, List.map_nil, hasL_one, has1]
                rw [Bool.eq_iff_iff]
                simp only [Bool.and_eq_true, decide_eq_true_eq]
                omega
              rw [e2]
              have e3 : insB lo hi (some 2) [n0, n1] = (has1 (lo, hi) n0 && !decide (n1 = 2)) := by
                unfold insB
                simp only [List.headD_cons, List.length_cons, List.length_nil, List.getD_cons_succ, List.getD_cons_zero, Option.isNone_some, Bool.false_or, Option.some.injEq]
                have : decide (0 + 1 + 1 = 1) = false := rfl
                rw [this, Bool.false_or, show decide ((2 : Int) = n1) = decide (n1 = 2) from decide_eq_decide.mpr eq_comm]
              rw [e3]
              cases has1 (lo, hi) n0 <;> cases decide (n1 = 2) <;> rfl
      · rintro σ' H10 ⟨f3, r2, rfl, s10, hf10, hc2, hd2, hs2⟩
        walk_at "rd"
        refine ⟨size_of (Nat.le_of_ble_eq_true rfl), fun g hg => ?_⟩
        obtain ⟨H11, e11, s11, h11⟩ := new_heap (o := .lst [.ref f3, ov lo, ov hi, ov hole]) hg
        rw [e11]
        exact q g H11 lo hi hole f3 r2 ((k09.trans (Same.keep s10)).trans (Same.keep s11)) ((p9.up s10).up s11) ⟨h11, hf10.up s11, hc2, hd2, hs2⟩
end
end Spk

set_option Elab.async false
set_option linter.all false
set_option maxRecDepth 100000
set_option maxHeartbeats 4000000
namespace Spk
open PySem L2
local macro_rules | `(tactic| walk_at "rd") => `(tactic| repeat (first
  | with_reducible refine i_seq ?_ | with_reducible refine i_asg ?_ | with_reducible refine i_ret ?_ | with_reducible refine i_ifS ?_ | with_reducible refine i_if ?_
  | with_reducible refine i_for ?_ | with_reducible refine i_iL ?_ | with_reducible refine i_iT ?_ | with_reducible refine i_ckw ?_ | with_reducible refine i_cm ?_ | with_reducible refine And.intro (rfl : V.ref _ = V.ref _) ?_ | with_reducible refine i_rng1 ?_ | with_reducible refine i_bm ?_ | with_reducible refine i_bm0 ?_
  | with_reducible refine i_drop ?_ | with_reducible refine i_next ?_
  | with_reducible refine i_var rfl ?_ | with_reducible refine i_c ?_ | with_reducible refine i_op ?_ | with_reducible refine i_un ?_ | with_reducible refine i_name ?_
  | with_reducible refine i_rI0 ?_ | with_reducible refine i_rU ?_ | with_reducible refine i_rEq rfl ?_ | with_reducible refine i_rNe rfl ?_
  | with_reducible refine i_test ?_ | with_reducible refine i_tB ?_ | with_reducible refine i_and ?_ | with_reducible refine i_or ?_ | with_reducible refine i_not ?_
  | with_reducible refine i_andV ?_ | with_reducible refine i_orV ?_ | with_reducible refine i_notV ?_
  | with_reducible refine i_cons ?_ | with_reducible refine i_nil ?_ | with_reducible refine i_cb ?_ | with_reducible refine i_call ?_ | with_reducible refine i_bl ?_
  | with_reducible refine i_tup ?_ | with_reducible refine i_lst ?_ | with_reducible refine i_par ?_ | with_reducible refine i_gcons ?_ | with_reducible refine i_gnil ?_
  | with_reducible refine And.intro (rfl : V.non = V.non) ?_ | with_reducible refine i_ixT (by assumption) rfl ?_ | with_reducible refine i_ixL (by assumption) rfl ?_ | with_reducible refine i_gtup (by assumption) rfl ?_
  | with_reducible refine i_gsub ?_
  | with_reducible refine Or.inl (Exists.intro _ (And.intro (rfl : [V.int _] = [V.int _]) ?_)) | with_reducible refine Exists.intro _ (And.intro (rfl : [V.int _] = [V.int _]) ?_)
  | with_reducible refine Or.inr (Exists.intro _ (And.intro (rfl : [V.bl _] = [V.bl _]) ?_))
  | with_reducible refine Exists.intro _ (Exists.intro _ (And.intro (rfl : [V.int _, V.int _] = [V.int _, V.int _]) ?_))
  | with_reducible refine Exists.intro _ (Exists.intro _ (And.intro (rfl : [V.ref _] = [V.ref _]) (And.intro (Or.inl (SqL.of (by assumption))) ?_)))
  | with_reducible refine i_rI (show (0 : Int) < _ by assumption) ?_ | with_reducible refine i_rI (show (0 : Int) < _ by decide) ?_
  | with_reducible refine i_rI (pow_ok (Nat.le_of_ble_eq_true rfl) (Nat.le_of_ble_eq_true rfl)) ?_
  | with_reducible refine i_rI (cmulL rfl) ?_))
section
variable {P : Program} {w : World} {K : PySem.W.Frag} {mg : Str → Option Value} {base : Heap} {C D R : Addr}
abbrev s_key : Stmt := top 44
theorem sc_key : FnScope ["_law_columns", "_law_keyed", "_law_row_here", "_law_column", "_law_value"] ["_law_columns", "_law_keyed", "_law_row_here"] (defScope s_key) := ⟨rfl, rfl, rfl, by decide +kernel, rfl, by decide +kernel, by decide +kernel⟩
def sp_key : Sp := fun vs H Q _ => ∃ lc tk r, ∃ cs ks : List Str, ∃ us : List V, vs = [.ref lc, .ref tk, .ref r] ∧ H lc = some (.lst (cs.map V.str)) ∧ H tk = some (.tup (ks.map V.str)) ∧ H r = some (.tup us) ∧ us.length = cs.length ∧ cs.length ≤ 8 ∧
  ∀ p H', Same H H' → H' p = some (.tup (duesL ks cs us)) → Q (.ref p) H'
theorem ok_key {f : Addr} {fd : FuncData} (F : Fun K "_law_key" "_law_key" s_key f fd) (z_tuple : mg "tuple" = none) (z_zip : mg "zip" = none) : FnOk P w K mg base CX0 1 f fd ["_law_columns", "_law_keyed", "_law_row_here"] sp_key := by
  refine F.ok sc_key (fun vs H Q E h => ?_) (fun cdv A outer s H vs Q E hr h => ?_)
  · obtain ⟨lc, tk, r, cs, ks, us, rfl, _⟩ := h
    rfl
  · obtain ⟨lc, tk, r, cs, ks, us, rfl, hc, hk, hr', hl, hz, q⟩ := h
    refine ⟨_, (pss_one (ps_ret (pe_callTy call_tuple_of (by rfl) z_tuple (by decide +kernel) (pa_cons (pe_lc (own := [("_law_column", 3), ("_law_value", 4)]) (g := gTup K 2 (gCons (gName 3) (gCons (gName 4) gNil))) rfl sc_key.nd (pi_zipM (by rfl) z_zip (pa_cons (pv 0) (pa_cons (pv 2) pa_nil))) (blkOk_by (own := [("_law_column", 3), ("_law_value", 4)]) (N := ["_law_columns", "_law_keyed", "_law_row_here", "_law_column", "_law_value"]) (sc := defScope s_key) (by decide +kernel)) (fun _ _ _ _ _ => pg_tup (by rfl) (pgs_cons (pg_name (i := 3) sc_key.nd rfl (Or.inl rfl)) (pgs_cons (pg_name (i := 4) sc_key.nd rfl (Or.inl rfl)) pgs_nil))) (fun _ _ _ _ _ => pts_one (pt_cmpR (op_inK (K := K) rfl) (pv 3) (pv 1) (by rfl))) (fun _ _ _ _ _ => (pv 4))) pa_nil)))), ?_⟩
    walk_at "rd"
    unfold tLc
    refine i_zipM ?_
    walk_at "rd"
    refine ⟨lc, r, _, us, rfl, SqL.of hc, SqT.of hr', fun G hG => ?_⟩
    obtain ⟨H1, e1, s1, h1⟩ := new_heap (o := .lst []) hG
    refine lc_it (walk_zipM (K := K) (a := lc) (b := r) (xs := cs.map V.str) (ys := us) (n := cs.length) (List.length_map ..) hl) (fun m H' => Same H H' ∧ H' G = some (.lst (duesL ks (cs.take m) (us.take m)))) ⟨by rw [e1]; exact s1, by rw [e1]; exact h1⟩ ?_ ?_ ?_
    · rintro m H' _ ⟨s2, _⟩
      exact ⟨SqL.of (s2 _ _ hc), SqT.of (s2 _ _ hr')⟩
    · rintro m y H2 _ hm ⟨s2, h2⟩ ⟨t2, c', v, rfl, ht2, rfl, ec, ev⟩
      obtain ⟨c, ec2, rfl⟩ := str_at ec
      obtain ⟨H3, e3, s3, h3⟩ := new_heap (o := .tup [.str c, v]) ht2
      rw [e3]
      have s03 : Same H H3 := fun b o z => s3 _ _ (s2 _ _ z)
      have tl : (cs.take m).length = (us.take m).length := by rw [List.length_take, List.length_take, hl]
      refine i_gtup h3 rfl (i_gcons ?_)
      walk_at "rd"
      refine ⟨rfl, ?_⟩
      walk_at "rd"
      refine in_at (.inr (SqT.of (s03 _ _ hk))) ⟨_, rfl, ?_⟩
      refine ite_d (fun hk' => ?_) (fun hk' => ?_)
      · walk_at "rd"
        refine ⟨_, s3 _ _ h2, size_lt ?_, Same.mut s03 hG, ?_⟩
        · have := dues_len (ks := ks) (cs.take m) (us.take m)
          rw [List.length_take] at this
          omega
        · rw [upd_same, take_snoc ec2, take_snoc ev, dues_snoc tl, if_pos hk']
      · refine ⟨s03, ?_⟩
        rw [take_snoc ec2, take_snoc ev, dues_snoc tl, if_neg hk', List.append_nil]
        exact s3 _ _ h2
    · rintro H2 ⟨s2, h2⟩
      rw [List.take_length, List.take_of_length_le (by omega)] at h2
      walk_at "rd"
      refine ⟨G, _, rfl, .inl ⟨SqL.of h2, fun u hu => ?_⟩⟩
      obtain ⟨H3, e3, s3, h3⟩ := new_heap (o := .tup (duesL ks cs us)) hu
      rw [e3]
      exact q u H3 (fun b o z => s3 _ _ (s2 _ _ z)) h3
abbrev s_row : Stmt := top 45
theorem sc_row : FnScope ["_law_pen_here", "_law_columns", "_law_keyed", "_law_wide", "_law_found", "_law_column", "_law_value", "_law_pick"] ["_law_pen_here", "_law_columns", "_law_keyed", "_law_wide"] (defScope s_row) := ⟨rfl, rfl, rfl, by decide +kernel, rfl, by decide +kernel, by decide +kernel⟩
theorem dues_sub {ks : List Str} : ∀ {cs : List Str} {us : List V} (v : V), v ∈ duesL ks cs us → v ∈ us
  | [], [], _, h => absurd h List.not_mem_nil
  | [], _ :: _, _, h => absurd h List.not_mem_nil
  | _ :: _, [], _, h => absurd h List.not_mem_nil
  | c :: cs, u :: us, v, h => by
    simp only [duesL] at h
    split at h
    · rcases List.mem_cons.mp h with e | h
      · exact e ▸ List.mem_cons_self
      · exact List.mem_cons_of_mem _ (dues_sub v h)
    · exact List.mem_cons_of_mem _ (dues_sub v h)
/-- none of these is seventy-seven -/
def No77 (us : List V) : Prop := ∀ v, v ∈ us → v ≠ .int 77
structure RwInv (H0 : Hp) (p L lc tk d : Addr) (wd : Int) (cs ks : List Str) (n i : Nat) (σ : L2.St) (H : Hp) : Prop where
  ex : ∃ (acc : List V) (x5 x6 x7 : Option V), σ = [some (.ref p), some (.ref lc), some (.ref tk), some (.int wd), some (.ref d), x5, x6, x7] ∧ Keep H0 H ∧ Pen H p L (n + 3 * i) ∧ H d = some (.lst acc) ∧ RowOk ks (cs.take i) acc ∧ (wd ≤ 77 → No77 acc)
def sp_row : Sp := fun vs H Q _ => ∃ p L n lc tk, ∃ wd : Int, ∃ cs ks : List Str, vs = [.ref p, .ref lc, .ref tk, .int wd] ∧ Pen H p L n ∧ n ≤ 9000 ∧ H lc = some (.lst (cs.map V.str)) ∧ H tk = some (.tup (ks.map V.str)) ∧ cs.length ≤ 8 ∧ 0 < wd ∧ wd ≤ 1000 ∧
  ∀ t H' us, Keep H H' → Pen H' p L (n + 3 * cs.length) → H' t = some (.tup us) → RowOk ks cs us → (wd ≤ 77 → No77 us) → Q (.ref t) H'
theorem row_snoc {ks : List Str} {c : Str} {v : V} : ∀ {us : List V} {cs : List Str}, RowOk ks cs us → Good v (decide (c ∈ ks)) → RowOk ks (cs ++ [c]) (us ++ [v])
  | _, _, .nil, g => .cons g .nil
  | _, _, .cons r t, g => .cons r (row_snoc t g)
theorem ok_row {f fD : Addr} {fd fdD : FuncData} (F : Fun K "_law_row" "_law_row" s_row f fd)
    (F_draw : Fun K "_law_draw" "_law_draw" s_draw fD fdD) (B_draw : Binds K fdD ["_law_pen_here", "_law_many"] []) (g_draw : mg "_law_draw" = some (.ref fD)) (G_draw : FnOk P w K mg base CX0 1 fD fdD ["_law_pen_here", "_law_many"] sp_draw)
    (z_tuple : mg "tuple" = none) : FnOk P w K mg base CX0 2 f fd ["_law_pen_here", "_law_columns", "_law_keyed", "_law_wide"] sp_row := by
  refine F.ok sc_row (fun vs H Q E h => ?_) (fun cdv A outer s H vs Q E hr h => ?_)
  · obtain ⟨p, L, n, lc, tk, wd, cs, ks, rfl, _⟩ := h
    rfl
  · obtain ⟨p, L, n, lc, tk, wd, cs, ks, rfl, hp, hn, hc, hk, hz, w0, w1, q⟩ := h
    refine ⟨_, (pss_cons (ps_set (i := 4) sc_row.nd rfl (Or.inl rfl) (pe_lst pa_nil))
 (pss_cons (ps_for PassesOwn.never rfl (pi_list (pv 1)) (pg_name (i := 5) sc_row.nd rfl (Or.inl rfl))
 (pss_cons (ps_set (i := 6) sc_row.nd rfl (Or.inl rfl) (pe_call G_draw (hr.mono (by decide)) rfl g_draw F_draw.kp B_draw .nil pass0 (pa_cons (pv 0) (pa_cons (pv 3) pa_nil))))
 (pss_cons (ps_set (i := 7) sc_row.nd rfl (Or.inl rfl) (pe_call G_draw (hr.mono (by decide)) rfl g_draw F_draw.kp B_draw .nil pass0 (pa_cons (pv 0) (pa_cons pe_int pa_nil))))
 (C8.pss_cut (ps_if (pt_cmpR op_eq (pv 7) pe_int (nomark _))
 (pss_one (ps_set (i := 6) sc_row.nd rfl (Or.inl rfl) (pe_ix ix_list (pe_lst (pa_cons (pe_op op_pow pe_int pe_int) (pa_cons (pe_op op_sub pe_int (pe_op op_pow pe_int pe_int)) (pa_cons (pe_op op_sub pe_int pe_int) (pa_cons (pe_op op_pow pe_int pe_int) pa_nil))))) (pe_call G_draw (hr.mono (by decide)) rfl g_draw F_draw.kp B_draw .nil pass0 (pa_cons (pv 0) (pa_cons pe_int pa_nil))) (fun _ _ => rfl))))
 pss_nil)
 (C8.pss_cut (ps_if (PW.pt (pw_and (pt_cmpR op_lt (pv 7) pe_int (nomark _)) (pw_and1 (pt_cmpR op_notIn_seq (pv 5) (pv 2) (by rfl)))))
 (pss_one (ps_set (i := 6) sc_row.nd rfl (Or.inl rfl) pe_non))
 pss_nil)
 (pss_one (ps_expr (pe_bm PySem.F.plainAttrs_list PySem.F.slot_list_append PySem.F.type_list_append mt_append (pv 4) (pa_cons (pv 6) pa_nil)))))))))
 (pss_one (ps_ret (pe_callTy call_tuple_of (by rfl) z_tuple (by decide +kernel) (pa_cons (pv 4) pa_nil)))))), ?_⟩
    walk_at "rd"
    refine ⟨Nat.zero_le _, fun d hd => ?_⟩
    obtain ⟨H1, e1, s1, h1⟩ := new_heap (o := .lst []) hd
    rw [e1]
    obtain ⟨pd, Ld⟩ := pen_ne hp hd
    walk_at "rd"
    refine ⟨lc, rfl, ⟨_, SqL.of (s1 _ _ hc)⟩, for_list (K := K) (a := lc) (xs := cs.map V.str) (RwInv H p L lc tk d wd cs ks n) ⟨[], _, _, _, rfl, Same.keep s1, (hp.up s1).mono (by omega), h1, .nil, fun _ v hv => absurd hv List.not_mem_nil⟩ ?_ ?_ ?_⟩
    · rintro i σ H2 _ ⟨acc, x5, x6, x7, rfl, k2, _⟩
      exact SqL.of (k2 _ _ (penny_strs cs) hc)
    · rintro i y σ H2 hy ⟨acc, x5, x6, x7, rfl, k2, p2, h2, r2, g77⟩
      obtain ⟨c, ec, rfl⟩ := str_at hy
      have hi : i < cs.length := (List.getElem?_eq_some_iff.mp ec).1
      have pa : penny (.lst acc) = false := penny_plain (row_plain r2)
      walk_at "rd"
      refine ⟨p, L, _, wd, rfl, p2, by omega, w0, by omega, fun d3 H3 g0 g1 k3 p3 => ?_⟩
      walk_at "rd"
      refine ⟨p, L, _, 12, rfl, p3, by omega, by decide, by decide, fun d4 H4 g2 g3 k4 p4 => ?_⟩
      walk_at "rd"
      have k24 : Keep H2 H4 := k3.trans k4
      have h4 := k24 _ _ pa h2
      refine ⟨fun σ' H' => ∃ m : Int, σ' = [some (.ref p), some (.ref lc), some (.ref tk), some (.int wd), some (.ref d), some (.str c), some (.int m), some (.int d4)] ∧ absI m < big ∧ (wd ≤ 77 → m ≠ 77) ∧ Keep H4 H' ∧ Pen H' p L (n + 3 * i + 3), ?_, ?_⟩
      · walk_at "rd"
        refine ite_d (fun _ => ?_) (fun _ => ?_)
        · walk_at "rd"
          refine ⟨size_of (Nat.le_of_ble_eq_true rfl), fun l hl => ?_⟩
          obtain ⟨H5, e5, s5, h5⟩ := new_heap (o := .lst [.int ((10 : Int) ^ (29 : Int).toNat), .int (0 - (10 : Int) ^ (29 : Int).toNat), .int (0 - 1), .int ((10 : Int) ^ (12 : Int).toNat)]) hl
          rw [e5]
          walk_at "rd"
          refine ⟨p, L, _, 4, rfl, p4.up s5, by omega, by decide, by decide, fun d6 H6 g4 g5 k6 p6 => ?_⟩
          refine item_at (k6 _ _ rfl h5) g4 (by simpa using g5) fun v hv => ?_
          walk_at "rd"
          simp only [List.mem_cons, List.not_mem_nil, or_false] at hv
          rcases hv with rfl | rfl | rfl | rfl
          · exact ⟨_, rfl, by decide, fun _ => by decide, (Same.keep s5).trans k6, p6⟩
          · exact ⟨_, rfl, by decide, fun _ => by decide, (Same.keep s5).trans k6, p6⟩
          · exact ⟨_, rfl, by decide, fun _ => by decide, (Same.keep s5).trans k6, p6⟩
          · exact ⟨_, rfl, by decide, fun _ => by decide, (Same.keep s5).trans k6, p6⟩
        · refine ⟨d3, rfl, ?_, fun _ => by omega, Keep.refl _, p4.mono (by omega)⟩
          have : absI d3 ≤ 1000 := by
            unfold absI
            split <;> omega
          have b : (1000 : Int) < big := by decide
          omega
      · rintro σ' H5 ⟨m, rfl, hm, m77, k5, p5⟩
        have h5 := k5 _ _ pa h4
        refine ⟨fun σ' H' => ∃ v, σ' = [some (.ref p), some (.ref lc), some (.ref tk), some (.int wd), some (.ref d), some (.str c), some v, some (.int d4)] ∧ Good v (decide (c ∈ ks)) ∧ (wd ≤ 77 → v ≠ .int 77) ∧ H' = H5, ?_, ?_⟩
        · walk_at "rd"
          have keep : ∃ v, ([some (.ref p), some (.ref lc), some (.ref tk), some (.int wd), some (.ref d), some (.str c), some (.int m), some (.int d4)] : L2.St) = [some (.ref p), some (.ref lc), some (.ref tk), some (.int wd), some (.ref d), some (.str c), some v, some (.int d4)] ∧ Good v (decide (c ∈ ks)) ∧ (wd ≤ 77 → v ≠ .int 77) ∧ H5 = H5 := ⟨_, rfl, .inl ⟨m, rfl, hm⟩, fun h e => m77 h (V.int.inj e), rfl⟩
          refine ite_d (fun _ => ?_) (fun _ => ?_)
          · walk_at "rd"
            refine notIn_at (.inr (SqT.of (k5 _ _ rfl (k24 _ _ rfl (k2 _ _ rfl hk))))) ⟨_, rfl, ?_⟩
            refine ite_nd (fun hm' => ?_) (fun hm' => ?_)
            · walk_at "rd"
              exact ⟨_, rfl, .inr ⟨rfl, decide_eq_false hm'⟩, (fun _ e => nomatch e), rfl⟩
            · exact keep
          · refine iteF ?_
            exact keep
        · rintro σ' H6 ⟨v, rfl, gv, v77, rfl⟩
          walk_at "rd"
          refine i_tyL h5 ?_
          walk_at "rd"
          have al : acc.length ≤ 8 := by
            have := Paired.length r2
            rw [List.length_take] at this
            omega
          refine i_app h5 (by omega) ?_
          have k0 : Keep H H6 := (k2.trans k24).trans k5
          refine ⟨acc ++ [v], _, _, _, rfl, k0.mut hd, (pen_off p5 pd Ld).mono (by omega), upd_same, ?_, fun h u hu => ?_⟩
          · rw [take_snoc ec]
            exact row_snoc r2 gv
          · rcases List.mem_append.mp hu with hu | hu
            · exact g77 h u hu
            · rw [List.mem_singleton] at hu
              rw [hu]
              exact v77 h
    · rintro σ H2 ⟨acc, x5, x6, x7, rfl, k2, p2, h2, r2, g77⟩
      rw [List.length_map] at p2 r2
      rw [List.take_length] at r2
      walk_at "rd"
      refine ⟨d, _, rfl, .inl ⟨SqL.of h2, fun t ht => ?_⟩⟩
      obtain ⟨H3, e3, s3, h3⟩ := new_heap (o := .tup acc) ht
      rw [e3]
      exact q t H3 acc (k2.trans (Same.keep s3)) (p2.up s3) h3 r2 g77
end
end Spk

set_option Elab.async false
set_option linter.all false
set_option maxRecDepth 100000
set_option maxHeartbeats 4000000
namespace Spk
open PySem L2
local macro_rules | `(tactic| walk_at "rd") => `(tactic| repeat (first
  | with_reducible refine i_seq ?_ | with_reducible refine i_asg ?_ | with_reducible refine i_ret ?_ | with_reducible refine i_ifS ?_ | with_reducible refine i_if ?_
  | with_reducible refine i_for ?_ | with_reducible refine i_iL ?_ | with_reducible refine i_iT ?_ | with_reducible refine i_ckw ?_ | with_reducible refine i_cm ?_ | with_reducible refine And.intro (rfl : V.ref _ = V.ref _) ?_ | with_reducible refine i_rng1 ?_ | with_reducible refine i_bm ?_ | with_reducible refine i_bm0 ?_
  | with_reducible refine i_drop ?_ | with_reducible refine i_next ?_
  | with_reducible refine i_var rfl ?_ | with_reducible refine i_c ?_ | with_reducible refine i_op ?_ | with_reducible refine i_un ?_ | with_reducible refine i_name ?_
  | with_reducible refine i_rI0 ?_ | with_reducible refine i_rU ?_ | with_reducible refine i_rEq rfl ?_ | with_reducible refine i_rNe rfl ?_
  | with_reducible refine i_test ?_ | with_reducible refine i_tB ?_ | with_reducible refine i_and ?_ | with_reducible refine i_or ?_ | with_reducible refine i_not ?_
  | with_reducible refine i_andV ?_ | with_reducible refine i_orV ?_ | with_reducible refine i_notV ?_
  | with_reducible refine i_cons ?_ | with_reducible refine i_nil ?_ | with_reducible refine i_cb ?_ | with_reducible refine i_call ?_ | with_reducible refine i_bl ?_
  | with_reducible refine i_tup ?_ | with_reducible refine i_lst ?_ | with_reducible refine i_par ?_ | with_reducible refine i_gcons ?_ | with_reducible refine i_gnil ?_
  | with_reducible refine And.intro (rfl : V.non = V.non) ?_ | with_reducible refine i_ixT (by assumption) rfl ?_ | with_reducible refine i_ixL (by assumption) rfl ?_ | with_reducible refine i_gtup (by assumption) rfl ?_
  | with_reducible refine i_gsub ?_
  | with_reducible refine Or.inl (Exists.intro _ (And.intro (rfl : [V.int _] = [V.int _]) ?_)) | with_reducible refine Exists.intro _ (And.intro (rfl : [V.int _] = [V.int _]) ?_)
  | with_reducible refine Or.inr (Exists.intro _ (And.intro (rfl : [V.bl _] = [V.bl _]) ?_))
  | with_reducible refine Exists.intro _ (Exists.intro _ (And.intro (rfl : [V.int _, V.int _] = [V.int _, V.int _]) ?_))
  | with_reducible refine Exists.intro _ (Exists.intro _ (And.intro (rfl : [V.ref _] = [V.ref _]) (And.intro (Or.inl (SqL.of (by assumption))) ?_)))
  | with_reducible refine i_rI (show (0 : Int) < _ by assumption) ?_ | with_reducible refine i_rI (show (0 : Int) < _ by decide) ?_
  | with_reducible refine i_rI (pow_ok (Nat.le_of_ble_eq_true rfl) (Nat.le_of_ble_eq_true rfl)) ?_
  | with_reducible refine i_rI (cmulL rfl) ?_))
/-! ### the shape of a table -/
structure ShOk (cs ks fs us : List Str) : Prop where
  cn : cs.Nodup
  sub : ∀ c, c ∈ cs → c ∈ words
  c0 : cs ≠ []
  cz : cs.length ≤ 4
  kn : ks.Nodup
  ksub : ∀ c, c ∈ ks → c ∈ cs
  k0 : ks ≠ []
  kz : ks.length ≤ 2
  fn : fs.Nodup
  fsub : ∀ c, c ∈ fs → c ∈ cs ∧ c ∉ ks
  fz : fs.length ≤ 1
  un : us.Nodup
  usub : ∀ c, c ∈ us → c ∈ cs ∧ c ∉ ks
  uz : us.length ≤ 2
theorem others_snoc2 {cs ks : List Str} {i : Nat} {c : Str} (h : cs[i]? = some c) : othersOf (cs.take (i + 1)) ks = othersOf (cs.take i) ks ++ (if c ∈ ks then [] else [c]) := by
  rw [others_snoc h]
  split <;> simp
theorem others_mem {cs ks : List Str} {c : Str} : c ∈ othersOf cs ks ↔ c ∈ cs ∧ c ∉ ks := by
  unfold othersOf
  rw [List.mem_filter]
  simp
theorem others_len (cs ks : List Str) : (othersOf cs ks).length ≤ cs.length := List.length_filter_le _ _
section
variable {P : Program} {w : World} {K : PySem.W.Frag} {mg : Str → Option Value} {base : Heap}
abbrev s_shape : Stmt := top 47
theorem sc_shape : FnScope ["_law_pen_here", "_law_left", "_law_columns", "_law_keyed", "_law_rest", "_law_firm", "_law_lone", "_law_k", "_law_column"] ["_law_pen_here"] (defScope s_shape) := ⟨rfl, rfl, rfl, by decide +kernel, rfl, by decide +kernel, by decide +kernel⟩
def sp_shape : Sp := fun vs H Q _ => ∃ p L n, vs = [.ref p] ∧ Pen H p L n ∧ n ≤ 9000 ∧ ∀ T G tk tf tu H', ∀ cs ks fs us : List Str, ∀ b, Pen H' p L (n + 16) → H' T = some (.tup [.ref G, .ref tk, .ref tf, .ref tu, .bl b]) → H' G = some (.lst (cs.map V.str)) → H' tk = some (.tup (ks.map V.str)) → H' tf = some (.tup (fs.map V.str)) → H' tu = some (.tup (us.map V.str)) → ShOk cs ks fs us → Q (.ref T) H'
theorem ok_shape {f fD fS : Addr} {fd fdD fdS : FuncData} (F : Fun K "_law_shape" "_law_shape" s_shape f fd) (F_draw : Fun K "_law_draw" "_law_draw" s_draw fD fdD) (B_draw : Binds K fdD ["_law_pen_here", "_law_many"] []) (g_draw : mg "_law_draw" = some (.ref fD)) (G_draw : FnOk P w K mg base CX0 1 fD fdD ["_law_pen_here", "_law_many"] sp_draw)
    (F_some : Fun K "_law_some" "_law_some" s_some fS fdS) (B_some : Binds K fdS ["_law_pen_here", "_law_names", "_law_most"] []) (g_some : mg "_law_some" = some (.ref fS)) (G_some : FnOk P w K mg base CX0 2 fS fdS ["_law_pen_here", "_law_names", "_law_most"] sp_some)
    (z_range : mg "range" = none) (z_len : mg "len" = none) (z_int : mg "int" = none) : FnOk P w K mg base CX0 3 f fd ["_law_pen_here"] sp_shape := by
  refine F.ok sc_shape (fun vs H Q E h => ?_) (fun cdv A outer s H vs Q E hr h => ?_)
  · obtain ⟨p, L, n, rfl, _⟩ := h
    rfl
  · obtain ⟨p, L, n, rfl, p2, hn, q⟩ := h
    refine ⟨_, (pss_cons (ps_set (i := 1) sc_shape.nd rfl (Or.inr rfl) (pe_lst (pa_cons pe_str (pa_cons pe_str (pa_cons pe_str (pa_cons pe_str (pa_cons pe_str (pa_cons pe_str (pa_cons pe_str (pa_cons pe_str pa_nil))))))))))
 (pss_cons (ps_setLc (i := 2) (own := [("_law_k", 7)]) (g := gName 7) (tt := tYes) rfl sc_shape.nd rfl rfl (sw_true rfl rfl rfl (by decide +kernel)) (pi_range1 (by rfl) z_range (pa_cons (pe_op op_add pe_int (pe_call G_draw (hr.mono (by decide)) rfl g_draw F_draw.kp B_draw .nil pass0 (pa_cons (pv 0) (pa_cons pe_int pa_nil)))) pa_nil)) (blkOk_by (own := [("_law_k", 7)]) (N := ["_law_pen_here", "_law_left", "_law_columns", "_law_keyed", "_law_rest", "_law_firm", "_law_lone", "_law_k", "_law_column"]) (sc := defScope s_shape) (by decide +kernel)) (fun _ _ _ _ _ => pg_name (i := 7) sc_shape.nd rfl (Or.inl rfl)) (fun _ _ _ _ _ => pts_nil) (fun _ _ _ _ _ => (pe_bmK (K := K) rfl PySem.F.plainAttrs_list PySem.F.slot_list_pop PySem.F.type_list_pop mt_popAt (pv 1) (pa_cons (pe_call G_draw (hr.mono (by decide)) rfl g_draw F_draw.kp B_draw .nil pass0 (pa_cons (pv 0) (pa_cons (pe_callB (call_len_seqK (K := K) rfl) (by rfl) z_len PySem.boot_len (pa_cons (pv 1) pa_nil)) pa_nil))) pa_nil))))
 (pss_cons (ps_set (i := 3) sc_shape.nd rfl (Or.inr rfl) (pe_call G_some (hr.mono (by decide)) rfl g_some F_some.kp B_some .nil pass0 (pa_cons (pv 0) (pa_cons (pv 2) (pa_cons (pe_op op_add pe_int (pe_callTy call_int1 (by rfl) z_int (by decide +kernel) (pa_cons (pe_cmpR op_gt (pe_callB call_len_seq (by rfl) z_len PySem.boot_len (pa_cons (pv 2) pa_nil)) pe_int (nomark _)) pa_nil))) pa_nil)))))
 (pss_cons (ps_setLc (i := 4) (own := [("_law_column", 8)]) (g := gName 8) rfl sc_shape.nd rfl rfl (sw_true rfl rfl rfl (by decide +kernel)) (pi_list (pv 2)) (blkOk_by (own := [("_law_column", 8)]) (N := ["_law_pen_here", "_law_left", "_law_columns", "_law_keyed", "_law_rest", "_law_firm", "_law_lone", "_law_k", "_law_column"]) (sc := defScope s_shape) (by decide +kernel)) (fun _ _ _ _ _ => pg_name (i := 8) sc_shape.nd rfl (Or.inl rfl)) (fun _ _ _ _ _ => pts_one (pt_cmpR (op_notInK (K := K) rfl) (pv 8) (pv 3) (by rfl))) (fun _ _ _ _ _ => (pv 8)))
 (C8.pss_cut (ps_set (i := 5) sc_shape.nd rfl (Or.inl rfl) (pe_ifExp (pt_cmpR op_eq (pe_call G_draw (hr.mono (by decide)) rfl g_draw F_draw.kp B_draw .nil pass0 (pa_cons (pv 0) (pa_cons pe_int pa_nil))) pe_int (nomark _)) (pe_call G_some (hr.mono (by decide)) rfl g_some F_some.kp B_some .nil pass0 (pa_cons (pv 0) (pa_cons (pv 4) (pa_cons pe_int pa_nil)))) (pe_tup pa_nil)))
 (C8.pss_cut (ps_set (i := 6) sc_shape.nd rfl (Or.inl rfl) (pe_ifExp (pt_cmpR op_eq (pe_call G_draw (hr.mono (by decide)) rfl g_draw F_draw.kp B_draw .nil pass0 (pa_cons (pv 0) (pa_cons pe_int pa_nil))) pe_int (nomark _)) (pe_call G_some (hr.mono (by decide)) rfl g_some F_some.kp B_some .nil pass0 (pa_cons (pv 0) (pa_cons (pv 4) (pa_cons pe_int pa_nil)))) (pe_tup pa_nil)))
 (pss_one (ps_ret (pe_tup (pa_cons (pv 2) (pa_cons (pv 3) (pa_cons (pv 5) (pa_cons (pv 6) (pa_cons (pe_cmpR op_eq (pe_call G_draw (hr.mono (by decide)) rfl g_draw F_draw.kp B_draw .nil pass0 (pa_cons (pv 0) (pa_cons pe_int pa_nil))) pe_int (nomark _)) pa_nil)))))))))))))), ?_⟩
    walk_at "rd"
    refine ⟨size_of (Nat.le_of_ble_eq_true rfl), fun l hl => ?_⟩
    obtain ⟨H3, e3, s3, h3⟩ := new_heap (o := .lst (words.map V.str)) hl
    have e3' : upd H l (.lst [.str "k", .str "r", .str "u", .str "key", .str "in", .str "a", .str "b", .str "once"]) = H3 := e3
    rw [e3']
    walk_at "rd"
    unfold tLc
    walk_at "rd"
    have p3 := p2.up s3
    refine ⟨p, L, _, 3, rfl, p3, by omega, by decide, by decide, fun d H4 d0 d1 k4 p4 => ?_⟩
    walk_at "rd"
    have h4 := k4 _ _ (penny_strs words) h3
    obtain ⟨dn, rfl⟩ : ∃ dn : Nat, d = (dn : Int) := ⟨d.toNat, by omega⟩
    refine ⟨by omega, by omega, fun G hG => ?_⟩
    obtain ⟨pD, LD⟩ := pen_ne p4 hG
    obtain ⟨pl', Ll'⟩ := pen_ne p2 hl
    have lD : l ≠ G := ne_of_none h4 hG
    refine lc_range (lo := 0) (n := ((2 : Int) + (dn : Int)).toNat) (fun j H' => ∃ cs ls : List Str, H' l = some (.lst (ls.map V.str)) ∧ H' G = some (.lst (cs.map V.str)) ∧ (cs ++ ls).Perm words ∧ cs.length = j ∧ Pen H' p L (n + 1 + j)) ⟨[], words, by rw [upd_ne lD]; exact h4, upd_same, List.Perm.refl _, rfl, (pen_off p4 pD LD).mono (by omega)⟩ ?_ ?_
    · rintro j H5 hj ⟨cs, ls, h5, hD5, pm, cz, p5⟩
      have lz : ls.length = 8 - j := by
        have := pm.length_eq
        rw [List.length_append] at this
        have w8 : words.length = 8 := rfl
        omega
      have hj4 : j < 4 := by omega
      walk_at "rd"
      refine ⟨rfl, i_yes (iteT ?_)⟩
      walk_at "rd"
      refine i_tyL h5 ?_
      walk_at "rd"
      rw [List.length_map]
      refine ⟨p, L, _, _, rfl, p5, by omega, by omega, by omega, fun g6 H6 g0 g1 k6 p6 => ?_⟩
      walk_at "rd"
      have h6 := k6 _ _ (penny_strs ls) h5
      have hD6 := k6 _ _ (penny_strs cs) hD5
      have gl : g6.toNat < ls.length := by omega
      refine ⟨l, _, g6, g6.toNat, .str ls[g6.toNat], rfl, rfl, h6, by omega, by omega, seq_ix g0 (by rw [List.length_map]; omega), by rw [List.getElem?_map, List.getElem?_eq_getElem gl]; rfl, ?_⟩
      rw [map_erase]
      have hD7 : upd H6 l (.lst ((ls.eraseIdx g6.toNat).map V.str)) G = some (.lst (cs.map V.str)) := by rw [upd_ne lD.symm]; exact hD6
      have pm2 : ((cs ++ [ls[g6.toNat]]) ++ ls.eraseIdx g6.toNat).Perm (cs ++ ls) := by
        rw [List.append_assoc]
        exact List.Perm.append_left cs (perm_erase gl)
      refine ⟨_, hD7, size_lt (by rw [List.length_map]; omega), cs ++ [ls[g6.toNat]], ls.eraseIdx g6.toNat, by rw [upd_ne lD, upd_same], ?_, pm2.trans pm, by rw [List.length_append, cz]; rfl, (pen_off (pen_off p6 pl' Ll') pD LD).mono (by omega)⟩
      rw [upd_same, List.map_append]
      rfl
    · rintro H5 ⟨cs, ls, h5, hD5, pm, cz, p5⟩
      have nd := List.nodup_append.mp (pm.nodup_iff.mpr words_nd)
      have sub : ∀ c, c ∈ cs → c ∈ words := fun c hc => pm.mem_iff.mp (List.mem_append_left _ hc)
      have tx : TxsOk cs := fun c hc => (words_ok c (sub c hc)).2.2
      have c0 : cs ≠ [] := fun z => by
        rw [z] at cz
        simp at cz
        omega
      walk_at "rd"
      obtain ⟨mm, em, m0, m2⟩ : ∃ mm : Int, (1 + if decide (2 < ((cs.map V.str).length : Int)) = true then (1 : Int) else 0) = mm ∧ 0 < mm ∧ mm ≤ 2 := ⟨_, rfl, by split <;> decide, by split <;> decide⟩
      rw [em]
      refine ⟨p, L, _, G, cs, mm, rfl, p5, by omega, hD5, by omega, nd.1, tx, m0, by omega, fun tk H6 ks k6 p6 h6 kn ksub kz kne => ?_⟩
      have p6 : Pen H6 p L (n + 8) := p6.mono (by omega)
      have hD6 := k6 _ _ (penny_strs cs) hD5
      walk_at "rd"
      refine ⟨G, rfl, ⟨_, SqL.of hD6⟩, fun G2 hG2 => ?_⟩
      obtain ⟨H7, e7, s7, h7⟩ := new_heap (o := .lst []) hG2
      refine lc_list (K := K) (a := G) (xs := cs.map V.str) (fun m H' => Same H6 H' ∧ H' G2 = some (.lst ((othersOf (cs.take m) ks).map V.str))) ⟨by rw [e7]; exact s7, by rw [e7]; exact h7⟩ ?_ ?_ ?_
      · rintro m H' _ ⟨s, _⟩
        exact SqL.of (s _ _ hD6)
      · rintro m y H8 hy ⟨s8, h8⟩
        obtain ⟨c, ec, rfl⟩ := str_at hy
        have sn := others_snoc2 (ks := ks) ec
        walk_at "rd"
        refine ⟨rfl, ?_⟩
        walk_at "rd"
        refine notIn_at (.inr (SqT.of (s8 _ _ h6))) ⟨_, rfl, ?_⟩
        by_cases hm : c ∈ ks
        · rw [if_pos hm] at sn
          rw [decide_eq_true hm]
          refine iteF ?_
          show Same H6 H8 ∧ H8 G2 = some (.lst ((othersOf (cs.take (m + 1)) ks).map V.str))
          exact ⟨s8, by rw [sn, List.append_nil]; exact h8⟩
        · rw [if_neg hm] at sn
          rw [decide_eq_false hm]
          refine iteT ?_
          walk_at "rd"
          refine ⟨_, h8, size_lt (by rw [List.length_map]; refine Nat.le_trans (others_len _ _) ?_; rw [List.length_take]; omega), Same.mut s8 hG2, ?_⟩
          rw [upd_same, sn, List.map_append]
          rfl
      rintro H8 ⟨s8, h8⟩
      rw [List.length_map, List.take_length] at h8
      have p8 := p6.up s8
      have hD8 := s8 _ _ hD6
      have ht8 := s8 _ _ h6
      clear e7 s7 h7 hG2 s8 p6 hD6 h6 k6 p5 hD5 h5
      have rn : (othersOf cs ks).Nodup := List.Pairwise.sublist List.filter_sublist nd.1
      have rl := others_len cs ks
      have rtx : TxsOk (othersOf cs ks) := fun c hc => tx c (others_mem.mp hc).1
      walk_at "rd"
      refine ⟨fun σ' H' => ∃ tf, ∃ fs : List Str, σ' = [some (.ref p), some (.ref l), some (.ref G), some (.ref tk), some (.ref G2), some (.ref tf), none, none, none] ∧ Keep H8 H' ∧ Pen H' p L (n + 11) ∧ H' tf = some (.tup (fs.map V.str)) ∧ fs.Nodup ∧ (∀ c, c ∈ fs → c ∈ othersOf cs ks) ∧ fs.length ≤ 1, ?_, ?_⟩
      · walk_at "rd"
        refine ⟨p, L, _, 3, rfl, p8, by omega, by decide, by decide, fun d9 H9 _ _ k9 p9 => ?_⟩
        walk_at "rd"
        refine ite_d (fun _ => ?_) (fun _ => ?_)
        · walk_at "rd"
          refine ⟨p, L, _, G2, othersOf cs ks, 1, rfl, p9, by omega, k9 _ _ (penny_strs _) h8, by omega, rn, rtx, by decide, by decide, fun tf H10 fs k10 p10 h10 fn fsub fz _ => ?_⟩
          walk_at "rd"
          exact ⟨tf, fs, rfl, k9.trans k10, p10.mono (by have : (1 : Int).toNat = 1 := rfl; omega), h10, fn, fsub, fz⟩
        · walk_at "rd"
          refine ⟨size_of (Nat.le_of_ble_eq_true rfl), fun tf htf => ?_⟩
          obtain ⟨H10, e10, s10, h10⟩ := new_heap (o := .tup []) htf
          rw [e10]
          walk_at "rd"
          exact ⟨tf, [], rfl, k9.trans (Same.keep s10), (p9.up s10).mono (by omega), h10, List.nodup_nil, fun _ h => absurd h List.not_mem_nil, by decide⟩
      · rintro σ' H9 ⟨tf, fs, rfl, k9, p9, hf9, fn, fsub, fz⟩
        have h9 := k9 _ _ (penny_strs _) h8
        have hD9 := k9 _ _ (penny_strs _) hD8
        have ht9 := k9 _ _ rfl ht8
        clear k9 h8 hD8 ht8 p8
        walk_at "rd"
        refine ⟨fun σ' H' => ∃ tu, ∃ us : List Str, σ' = [some (.ref p), some (.ref l), some (.ref G), some (.ref tk), some (.ref G2), some (.ref tf), some (.ref tu), none, none] ∧ Keep H9 H' ∧ Pen H' p L (n + 15) ∧ H' tu = some (.tup (us.map V.str)) ∧ us.Nodup ∧ (∀ c, c ∈ us → c ∈ othersOf cs ks) ∧ us.length ≤ 2, ?_, ?_⟩
        · walk_at "rd"
          refine ⟨p, L, _, 2, rfl, p9, by omega, by decide, by decide, fun d10 H10 _ _ k10 p10 => ?_⟩
          walk_at "rd"
          refine ite_d (fun _ => ?_) (fun _ => ?_)
          · walk_at "rd"
            refine ⟨p, L, _, G2, othersOf cs ks, 2, rfl, p10, by omega, k10 _ _ (penny_strs _) h9, by omega, rn, rtx, by decide, by decide, fun tu H11 us k11 p11 h11 un usub uz _ => ?_⟩
            walk_at "rd"
            exact ⟨tu, us, rfl, k10.trans k11, p11.mono (by have : (2 : Int).toNat = 2 := rfl; omega), h11, un, usub, uz⟩
          · walk_at "rd"
            refine ⟨size_of (Nat.le_of_ble_eq_true rfl), fun tu htu => ?_⟩
            obtain ⟨H11, e11, s11, h11⟩ := new_heap (o := .tup []) htu
            rw [e11]
            walk_at "rd"
            exact ⟨tu, [], rfl, k10.trans (Same.keep s11), (p10.up s11).mono (by omega), h11, List.nodup_nil, fun _ h => absurd h List.not_mem_nil, by decide⟩
        · rintro σ' H10 ⟨tu, us, rfl, k10, p10, hu10, un, usub, uz⟩
          have hD10 := k10 _ _ (penny_strs _) hD9
          have ht10 := k10 _ _ rfl ht9
          have hf10 := k10 _ _ rfl hf9
          walk_at "rd"
          refine ⟨p, L, _, 2, rfl, p10, by omega, by decide, by decide, fun d11 H11 _ _ k11 p11 => ?_⟩
          walk_at "rd"
          refine ⟨size_of (Nat.le_of_ble_eq_true rfl), fun T hT => ?_⟩
          obtain ⟨H12, e12, s12, h12⟩ := new_heap (o := .tup [.ref G, .ref tk, .ref tf, .ref tu, .bl (decide (V.int d11 = V.int 0))]) hT
          rw [e12]
          have kz2 : ks.length ≤ 2 := by omega
          exact q T G tk tf tu H12 cs ks fs us _ ((p11.up s12).mono (by omega)) h12 (s12 _ _ (k11 _ _ (penny_strs _) hD10)) (s12 _ _ (k11 _ _ rfl ht10)) (s12 _ _ (k11 _ _ rfl hf10)) (s12 _ _ (k11 _ _ rfl hu10))
            ⟨nd.1, sub, c0, by omega, kn, ksub, kne c0, kz2, fn, fun c hc => others_mem.mp (fsub c hc), fz, un, fun c hc => others_mem.mp (usub c hc), uz⟩
end
end Spk

set_option Elab.async false
set_option linter.all false
set_option maxRecDepth 100000
set_option maxHeartbeats 4000000
namespace Spk
open PySem L2
local macro_rules | `(tactic| walk_at "rd") => `(tactic| repeat (first
  | with_reducible refine i_seq ?_ | with_reducible refine i_asg ?_ | with_reducible refine i_ret ?_ | with_reducible refine i_ifS ?_ | with_reducible refine i_if ?_
  | with_reducible refine i_for ?_ | with_reducible refine i_iL ?_ | with_reducible refine i_iT ?_ | with_reducible refine i_ckw ?_ | with_reducible refine i_cm ?_ | with_reducible refine And.intro (rfl : V.ref _ = V.ref _) ?_ | with_reducible refine i_rng1 ?_ | with_reducible refine i_bm ?_ | with_reducible refine i_bm0 ?_
  | with_reducible refine i_drop ?_ | with_reducible refine i_next ?_
  | with_reducible refine i_var rfl ?_ | with_reducible refine i_c ?_ | with_reducible refine i_op ?_ | with_reducible refine i_un ?_ | with_reducible refine i_name ?_
  | with_reducible refine i_rI0 ?_ | with_reducible refine i_rU ?_ | with_reducible refine i_rEq rfl ?_ | with_reducible refine i_rNe rfl ?_
  | with_reducible refine i_test ?_ | with_reducible refine i_tB ?_ | with_reducible refine i_and ?_ | with_reducible refine i_or ?_ | with_reducible refine i_not ?_
  | with_reducible refine i_andV ?_ | with_reducible refine i_orV ?_ | with_reducible refine i_notV ?_
  | with_reducible refine i_cons ?_ | with_reducible refine i_nil ?_ | with_reducible refine i_cb ?_ | with_reducible refine i_call ?_ | with_reducible refine i_bl ?_
  | with_reducible refine i_tup ?_ | with_reducible refine i_lst ?_ | with_reducible refine i_par ?_ | with_reducible refine i_gcons ?_ | with_reducible refine i_gnil ?_
  | with_reducible refine And.intro (rfl : V.non = V.non) ?_ | with_reducible refine i_ixT (by assumption) rfl ?_ | with_reducible refine i_ixL (by assumption) rfl ?_ | with_reducible refine i_gtup (by assumption) rfl ?_
  | with_reducible refine i_gsub ?_
  | with_reducible refine Or.inl (Exists.intro _ (And.intro (rfl : [V.int _] = [V.int _]) ?_)) | with_reducible refine Exists.intro _ (And.intro (rfl : [V.int _] = [V.int _]) ?_)
  | with_reducible refine Or.inr (Exists.intro _ (And.intro (rfl : [V.bl _] = [V.bl _]) ?_))
  | with_reducible refine Exists.intro _ (Exists.intro _ (And.intro (rfl : [V.int _, V.int _] = [V.int _, V.int _]) ?_))
  | with_reducible refine Exists.intro _ (Exists.intro _ (And.intro (rfl : [V.ref _] = [V.ref _]) (And.intro (Or.inl (SqL.of (by assumption))) ?_)))
  | with_reducible refine i_rI (show (0 : Int) < _ by assumption) ?_ | with_reducible refine i_rI (show (0 : Int) < _ by decide) ?_
  | with_reducible refine i_rI (pow_ok (Nat.le_of_ble_eq_true rfl) (Nat.le_of_ble_eq_true rfl)) ?_
  | with_reducible refine i_rI (cmulL rfl) ?_))
/-! ### rows compared, what is heard -/
/-- a row of values, or none -/
def RowP (H : Hp) (v : V) : Prop := v = .non ∨ ∃ r us, v = .ref r ∧ H r = some (.tup us) ∧ ∀ u, u ∈ us → Plain u
theorem RowP.up {H H' : Hp} {v : V} (e : Same H H') (h : RowP H v) : RowP H' v := h.elim .inl fun ⟨r, us, a, b, c⟩ => .inr ⟨r, us, a, e _ _ b, c⟩
theorem row_dp {K : PySem.W.Frag} {H : Hp} {v : V} (h : RowP H v) : ∃ d : PyData, Dp K H v d ∧ d.canLay0 = true ∧ d.depth ≤ 2 := by
  rcases h with rfl | ⟨r, us, rfl, hr, pl⟩
  · exact ⟨.none, .non, by simp [PyData.canLay0], by simp [PyData.depth]⟩
  · refine ⟨.tuple (us.map dV), .tup (SqT.of hr) (dps_plain pl), by simpa only [PyData.canLay0] using lay_plain us, ?_⟩
    have := dep_plain us
    simp only [PyData.depth]
    omega
theorem rows_dp {K : PySem.W.Frag} {H : Hp} : ∀ {vs : List V}, (∀ v, v ∈ vs → RowP H v) → ∃ ds : List PyData, DpAll K H vs ds ∧ PyData.canLayAll0 ds = true ∧ PyData.depthAll ds ≤ 2
  | [], _ => ⟨[], .nil, by simp [PyData.canLayAll0], by simp [PyData.depthAll]⟩
  | v :: vs, h => by
    obtain ⟨d, a, b, c⟩ := row_dp (K := K) (h v List.mem_cons_self)
    obtain ⟨ds, a', b', c'⟩ := rows_dp (K := K) fun u hu => h u (List.mem_cons_of_mem _ hu)
    refine ⟨d :: ds, .cons a a', by simp [PyData.canLayAll0, b, b'], ?_⟩
    simp only [PyData.depthAll]
    omega
theorem ne_rows {K : PySem.W.Frag} {H : Hp} {a b : Addr} {vs : List V} {Q : VK} (ha : H a = some (.tup vs)) (hb : H b = some (.tup vs)) (h : ∀ v, v ∈ vs → RowP H v) (q : Q (.bl false) H) : rNeD K (.ref a) (.ref b) H Q := by
  obtain ⟨ds, e, l, dp⟩ := rows_dp (K := K) h
  have ly : (PyData.tuple ds).canLay0 = true := by simpa only [PyData.canLay0] using l
  have sh : SeqAt.shaped (.tuple ds) = true := by
    unfold SeqAt.shaped
    rw [Bool.and_eq_true, decide_eq_true_eq]
    refine ⟨ly, ?_⟩
    simp only [PyData.depth]
    omega
  refine ⟨.tuple ds, .tuple ds, .tup (SqT.of ha) e, .tup (SqT.of hb) e, sh, sh, ?_⟩
  rw [SeqAt.eqv_refl _ ly]
  exact q
theorem ne_row {K : PySem.W.Frag} {H : Hp} {v : V} {Q : VK} (h : RowP H v) (q : Q (.bl false) H) : rNeD K v v H Q := by
  obtain ⟨d, e, l, dp⟩ := row_dp (K := K) h
  have sh : SeqAt.shaped d = true := by
    unfold SeqAt.shaped
    rw [Bool.and_eq_true, decide_eq_true_eq]
    exact ⟨l, by omega⟩
  refine ⟨d, d, e, e, sh, sh, ?_⟩
  rw [SeqAt.eqv_refl _ l]
  exact q
theorem shaped_of {d : PyData} (l : d.canLay0 = true) (h : d.depth ≤ 64) : SeqAt.shaped d = true := by
  unfold SeqAt.shaped
  rw [Bool.and_eq_true, decide_eq_true_eq]
  exact ⟨l, h⟩
theorem ne_refused {K : PySem.W.Frag} {H : Hp} {a b : Addr} {rs : Str} {Q : VK} (ha : H a = some (.tup [.str "refused", .str rs])) (hb : H b = some (.tup [.str "refused", .str rs])) (ok : PyData.strOk rs = true) (q : Q (.bl false) H) : rNeD K (.ref a) (.ref b) H Q := by
  have ly : (PyData.tuple [.str "refused", .str rs]).canLay0 = true := by
    simp only [PyData.canLay0, PyData.canLayAll0, ok, Bool.and_true]
    decide +kernel
  have sh := shaped_of ly (by simp [PyData.depth, PyData.depthAll])
  refine ⟨_, _, .tup (SqT.of ha) (.cons (.str _) (.cons (.str _) .nil)), .tup (SqT.of hb) (.cons (.str _) (.cons (.str _) .nil)), sh, sh, ?_⟩
  rw [SeqAt.eqv_refl _ ly]
  exact q
theorem layN : ∀ ns : List Int, PyData.canLayAll0 (ns.map PyData.int) = true
  | [] => by simp [PyData.canLayAll0]
  | n :: ns => by
    have := layN ns
    simp [PyData.canLayAll0, PyData.canLay0, this]
theorem ne_told {K : PySem.W.Frag} {H : Hp} {a b t u k j : Addr} {ns : List Int} {v1 v2 : V} {Q : VK} (ha : H a = some (.tup [.str "told", .ref t])) (ht : H t = some (.tup [.ref k, v1, v2])) (hk : H k = some (.tup (ns.map V.int)))
    (hb : H b = some (.tup [.str "told", .ref u])) (hu : H u = some (.tup [.ref j, v1, v2])) (hj : H j = some (.tup (ns.map V.int))) (r1 : RowP H v1) (r2 : RowP H v2) (q : Q (.bl false) H) : rNeD K (.ref a) (.ref b) H Q := by
  obtain ⟨d1, e1, l1, p1⟩ := row_dp (K := K) r1
  obtain ⟨d2, e2, l2, p2⟩ := row_dp (K := K) r2
  have dn := depN ns
  have ly : (PyData.tuple [.str "told", .tuple [tupD ns, d1, d2]]).canLay0 = true := by
    have := layN ns
    simp only [PyData.canLay0, PyData.canLayAll0, tupD, l1, l2, this, Bool.and_true]
    decide +kernel
  have sh := shaped_of ly (by
    simp only [PyData.depth, PyData.depthAll, tupD]
    omega)
  refine ⟨_, _, .tup (SqT.of ha) (.cons (.str _) (.cons (.tup (SqT.of ht) (.cons (.tup (SqT.of hk) (dpsN ns)) (.cons e1 (.cons e2 .nil)))) .nil)),
    .tup (SqT.of hb) (.cons (.str _) (.cons (.tup (SqT.of hu) (.cons (.tup (SqT.of hj) (dpsN ns)) (.cons e1 (.cons e2 .nil)))) .nil)), sh, sh, ?_⟩
  rw [SeqAt.eqv_refl _ ly]
  exact q
theorem ite_var {i k : Nat} {σ : L2.St} {H : Hp} {Q : VK} {y z : V} {c : Bool} (hi : σ[i]? = some (some y)) (hk : σ[k]? = some (some z)) (h : Q (if c = true then y else z) H) : if c = true then tVar i σ H Q else tVar k σ H Q := by
  cases c
  · exact i_var hk h
  · exact i_var hi h
theorem ite_cvar {k : Nat} {σ : L2.St} {H : Hp} {Q : VK} {y z : V} {c : Bool} (hk : σ[k]? = some (some z)) (h : Q (if c = true then y else z) H) : if c = true then tC y σ H Q else tVar k σ H Q := by
  cases c
  · exact i_var hk h
  · exact h
theorem RowP.tup {H H' : Hp} {v : V} (e : ∀ a us, H a = some (.tup us) → H' a = some (.tup us)) (h : RowP H v) : RowP H' v := h.elim .inl fun ⟨r, us, a, b, c⟩ => .inr ⟨r, us, a, e _ _ b, c⟩
theorem word_new {w : Str} {a b : V} : (if w = "delete" then V.non else (if w = "delete" then a else b)) = (if w = "delete" then V.non else b) := by
  split <;> rfl
theorem word_if {w u : Str} {a b : V} : (if decide (V.str w = V.str u) = true then a else b) = (if w = u then a else b) := by
  by_cases h : w = u
  · rw [if_pos h, if_pos (decide_eq_true (by rw [h]))]
  · rw [if_neg h, if_neg (by rw [decide_eq_false (fun e => h (V.str.inj e))]; decide)]
theorem due_ok {H : Hp} {z : Tw} {w : Str} {ns : List Int} {y : V} {rs : Str} (h : dueW H z w ns y = some rs) : PyData.strOk rs = true := by
  have u : ∀ {a : Prop} [Decidable a], (if a then some ("unique" : Str) else none) = some rs → PyData.strOk rs = true := fun h => by
    split at h
    · cases h
      decide +kernel
    · cases h
  unfold dueW at h
  split at h
  · cases h
    decide +kernel
  · split at h
    · unfold dueI at h
      split at h
      · cases h
        decide +kernel
      · split at h
        · cases h
          decide +kernel
        · exact u h
    · split at h
      · cases h
        decide +kernel
      · split at h
        · cases h
        · unfold dueU at h
          split at h
          · cases h
            decide +kernel
          · exact u h
/-! ### steps at their addresses -/
def StAt (H : Hp) (q : Addr) (s : Stp) : Prop := ∃ b, H q = some (.tup [.ref b, vOf s.old, vOf s.new]) ∧ H b = some (.tup (s.ns.map V.int)) ∧ (∀ p, s.old = some p → H p.1 = some (.tup p.2) ∧ ∀ v, v ∈ p.2 → Plain v) ∧ ∀ p, s.new = some p → H p.1 = some (.tup p.2) ∧ ∀ v, v ∈ p.2 → Plain v
theorem StAt.tup {H H' : Hp} {q : Addr} {s : Stp} (e : ∀ a us, H a = some (.tup us) → H' a = some (.tup us)) (h : StAt H q s) : StAt H' q s := by
  obtain ⟨b, h1, h2, h3, h4⟩ := h
  exact ⟨b, e _ _ h1, e _ _ h2, fun p a => ⟨e _ _ (h3 p a).1, (h3 p a).2⟩, fun p a => ⟨e _ _ (h4 p a).1, (h4 p a).2⟩⟩
abbrev StsAt (H : Hp) (qs : List Addr) (ss : List Stp) : Prop := Paired (StAt H) qs ss
theorem StsAt.tup {H H' : Hp} {qs : List Addr} {ss : List Stp} (e : ∀ a us, H a = some (.tup us) → H' a = some (.tup us)) (h : StsAt H qs ss) : StsAt H' qs ss := Paired.mapP h fun _ _ z => z.tup e
theorem sts_app {H : Hp} : ∀ {as bs : List Addr} {xs ys : List Stp}, StsAt H as xs → StsAt H bs ys → StsAt H (as ++ bs) (xs ++ ys)
  | _, _, _, _, .nil, t => t
  | _, _, _, _, .cons r s, t => .cons r (sts_app s t)
/-- the change that makes a step, and of what -/
def wordV (b : Addr) (o n : Option Row) : Str × V := if o = none then ("insert", vOf n) else if n = none then ("delete", .ref b) else ("update", vOf n)
theorem vOf_non {o : Option Row} : vOf o = .non ↔ o = none := by
  cases o with
  | none => exact ⟨fun _ => rfl, fun _ => rfl⟩
  | some p => exact ⟨fun e => (nomatch e), fun e => (nomatch e)⟩
section
variable {P : Program} {w : World} {K : PySem.W.Frag} {mg : Str → Option Value} {base : Heap}
abbrev s_word : Stmt := top 48
theorem sc_word : FnScope ["_law_step", "_law_mine", "_law_old", "_law_new"] ["_law_step"] (defScope s_word) := ⟨rfl, rfl, rfl, by decide +kernel, rfl, by decide +kernel, by decide +kernel⟩
def sp_word : Sp := fun vs H Q _ => ∃ t b o n, vs = [.ref t] ∧ H t = some (.tup [.ref b, vOf o, vOf n]) ∧ ∀ T H', Same H H' → H' T = some (.tup [.str (wordV b o n).1, (wordV b o n).2]) → Q (.ref T) H'
theorem ok_word {f : Addr} {fd : FuncData} (F : Fun K "_law_word" "_law_word" s_word f fd) : FnOk P w K mg base CX0 1 f fd ["_law_step"] sp_word := by
  refine F.ok sc_word (fun vs H Q E h => ?_) (fun cdv A outer s H vs Q E hr h => ?_)
  · obtain ⟨t, b, o, n, rfl, _⟩ := h
    rfl
  · obtain ⟨t, b, o, n, rfl, ht, q⟩ := h
    refine ⟨_, (pss_cons (ps_asg (pv 0) (pg_tup (by rfl) (pgs_cons (pg_name (i := 1) sc_word.nd rfl (Or.inl rfl)) (pgs_cons (pg_name (i := 2) sc_word.nd rfl (Or.inl rfl)) (pgs_cons (pg_name (i := 3) sc_word.nd rfl (Or.inl rfl)) pgs_nil)))))
 (pss_cons (ps_if (pt_cmpR op_isN (pv 2) pe_non (nomark _))
 (pss_one (ps_ret (pe_tup (pa_cons pe_str (pa_cons (pv 3) pa_nil)))))
 pss_nil)
 (pss_one (ps_ret (pe_ifExp (pt_cmpR op_isN (pv 3) pe_non (nomark _)) (pe_tup (pa_cons pe_str (pa_cons (pv 1) pa_nil))) (pe_tup (pa_cons pe_str (pa_cons (pv 3) pa_nil)))))))), ?_⟩
    walk_at "rd"
    unfold wordV at q
    by_cases ho : o = none
    · rw [if_pos ho] at q
      rw [decide_eq_true (vOf_non.mpr ho)]
      refine iteT ?_
      walk_at "rd"
      refine ⟨size_of (Nat.le_of_ble_eq_true rfl), fun T hT => ?_⟩
      obtain ⟨H1, e1, s1, h1⟩ := new_heap (o := .tup [.str "insert", vOf n]) hT
      rw [e1]
      exact q T H1 s1 h1
    · rw [if_neg ho] at q
      rw [decide_eq_false (fun e => ho (vOf_non.mp e))]
      refine iteF ?_
      walk_at "rd"
      by_cases hn : n = none
      · rw [if_pos hn] at q
        rw [decide_eq_true (vOf_non.mpr hn)]
        refine iteT ?_
        walk_at "rd"
        refine ⟨size_of (Nat.le_of_ble_eq_true rfl), fun T hT => ?_⟩
        obtain ⟨H1, e1, s1, h1⟩ := new_heap (o := .tup [.str "delete", .ref b]) hT
        rw [e1]
        exact q T H1 s1 h1
      · rw [if_neg hn] at q
        rw [decide_eq_false (fun e => hn (vOf_non.mp e))]
        refine iteF ?_
        walk_at "rd"
        refine ⟨size_of (Nat.le_of_ble_eq_true rfl), fun T hT => ?_⟩
        obtain ⟨H1, e1, s1, h1⟩ := new_heap (o := .tup [.str "update", vOf n]) hT
        rw [e1]
        exact q T H1 s1 h1
end
end Spk

set_option Elab.async false
set_option linter.all false
set_option maxRecDepth 100000
set_option maxHeartbeats 4000000
namespace Spk
open PySem L2
local macro_rules | `(tactic| walk_at "rd") => `(tactic| repeat (first
  | with_reducible refine i_seq ?_ | with_reducible refine i_asg ?_ | with_reducible refine i_ret ?_ | with_reducible refine i_ifS ?_ | with_reducible refine i_if ?_
  | with_reducible refine i_for ?_ | with_reducible refine i_iL ?_ | with_reducible refine i_iT ?_ | with_reducible refine i_ckw ?_ | with_reducible refine i_cm ?_ | with_reducible refine And.intro (rfl : V.ref _ = V.ref _) ?_ | with_reducible refine i_rng1 ?_ | with_reducible refine i_bm ?_ | with_reducible refine i_bm0 ?_
  | with_reducible refine i_drop ?_ | with_reducible refine i_next ?_
  | with_reducible refine i_var rfl ?_ | with_reducible refine i_c ?_ | with_reducible refine i_op ?_ | with_reducible refine i_un ?_ | with_reducible refine i_name ?_
  | with_reducible refine i_rI0 ?_ | with_reducible refine i_rU ?_ | with_reducible refine i_rEq rfl ?_ | with_reducible refine i_rNe rfl ?_
  | with_reducible refine i_test ?_ | with_reducible refine i_tB ?_ | with_reducible refine i_and ?_ | with_reducible refine i_or ?_ | with_reducible refine i_not ?_
  | with_reducible refine i_andV ?_ | with_reducible refine i_orV ?_ | with_reducible refine i_notV ?_
  | with_reducible refine i_cons ?_ | with_reducible refine i_nil ?_ | with_reducible refine i_cb ?_ | with_reducible refine i_call ?_ | with_reducible refine i_bl ?_
  | with_reducible refine i_tup ?_ | with_reducible refine i_lst ?_ | with_reducible refine i_par ?_ | with_reducible refine i_gcons ?_ | with_reducible refine i_gnil ?_
  | with_reducible refine And.intro (rfl : V.non = V.non) ?_ | with_reducible refine i_ixT (by assumption) rfl ?_ | with_reducible refine i_ixL (by assumption) rfl ?_ | with_reducible refine i_gtup (by assumption) rfl ?_
  | with_reducible refine i_gsub ?_
  | with_reducible refine Or.inl (Exists.intro _ (And.intro (rfl : [V.int _] = [V.int _]) ?_)) | with_reducible refine Exists.intro _ (And.intro (rfl : [V.int _] = [V.int _]) ?_)
  | with_reducible refine Or.inr (Exists.intro _ (And.intro (rfl : [V.bl _] = [V.bl _]) ?_))
  | with_reducible refine Exists.intro _ (Exists.intro _ (And.intro (rfl : [V.int _, V.int _] = [V.int _, V.int _]) ?_))
  | with_reducible refine Exists.intro _ (Exists.intro _ (And.intro (rfl : [V.ref _] = [V.ref _]) (And.intro (Or.inl (SqL.of (by assumption))) ?_)))
  | with_reducible refine i_rI (show (0 : Int) < _ by assumption) ?_ | with_reducible refine i_rI (show (0 : Int) < _ by decide) ?_
  | with_reducible refine i_rI (pow_ok (Nat.le_of_ble_eq_true rfl) (Nat.le_of_ble_eq_true rfl)) ?_
  | with_reducible refine i_rI (cmulL rfl) ?_))
/-! ### what steps tell of the rows that stand -/
theorem dataLe_tupD : PySem.W.dataLe false tupD = fun a b : List Int => decide (a ≤ b) := by
  funext a b
  show (!PySem.W.dataLt (tupD b) (tupD a)) = _
  have e : PySem.W.dataLt (tupD b) (tupD a) = decide (b < a) := by
    rw [← PySem.W.dataLt_ints]
    rfl
  rw [e]
  by_cases h : b < a
  · have h' : ¬ a ≤ b := fun r => List.not_lt.mpr r h
    simp [h, h']
  · have h' : a ≤ b := List.not_lt.mp h
    simp [h, h']
theorem sortN_pair (nss : List (List Int)) : (sortN nss).Pairwise (fun a b => a ≤ b) := by
  have h := List.pairwise_mergeSort (le := PySem.W.dataLe false tupD) (fun a b c h1 h2 => by
    rw [dataLe_tupD] at h1 h2 ⊢
    simp only [decide_eq_true_eq] at h1 h2 ⊢
    exact List.le_trans h1 h2) (fun a b => by
    rw [dataLe_tupD]
    simp only [Bool.or_eq_true, decide_eq_true_eq]
    exact List.le_total a b) nss
  refine h.imp fun {a b} q => ?_
  rw [dataLe_tupD] at q
  exact of_decide_eq_true q
/-- but for a dict at d all is as it was -/
def OffD (d : Addr) (H H' : Hp) : Prop := ∀ c o, c ≠ d → H c = some o → H' c = some o
theorem offD_upd {d : Addr} {H : Hp} {o : HO} : OffD d H (upd H d o) := fun c v n h => by rw [upd_ne n]; exact h
theorem OffD.trans {d : Addr} {H H1 H2 : Hp} (a : OffD d H H1) (b : OffD d H1 H2) : OffD d H H2 := fun c o n h => b c o n (a c o n h)
theorem Same.offD {d : Addr} {H H' : Hp} (e : Same H H') : OffD d H H' := fun c o _ h => e c o h
theorem OffD.get {d : Addr} {H H' : Hp} {l : List (List Key × V)} (o : OffD d H H') (hd : H d = some (.dT l)) {a : Addr} {v : HO} (h : H a = some v) (nd : ∀ l, v ≠ .dT l) : H' a = some v :=
  o a v (fun e => by rw [e, hd] at h; exact nd _ (Option.some.inj h).symm) h
theorem Tab.offD {C d : Addr} {H H' : Hp} {l : List (List Key × V)} (o : OffD d H H') (hd : H d = some (.dT l)) {a : Addr} {t : Tb} (h : Tab C H a t) : Tab C H' a t := by
  obtain ⟨dx, tc, tk, tf, tu, h1, ⟨ob, h2, r⟩, h3, h4, h5⟩ := h
  exact ⟨dx, tc, tk, tf, tu, o.get hd h1 (fun _ z => nomatch z), ⟨ob, o.get hd h2 (fun _ z => nomatch z), r⟩, o.get hd h3 (fun _ z => nomatch z), o.get hd h4 (fun _ z => nomatch z), o.get hd h5 (fun _ z => nomatch z)⟩
theorem Fil.offD {D d : Addr} {H H' : Hp} {l : List (List Key × V)} (o : OffD d H H') (hd : H d = some (.dT l)) {a : Addr} {t : Fi.Tr} (h : Fi.Fil D H a t) : Fi.Fil D H' a t := by
  obtain ⟨dx, v, q, cs, h1, h2, h3, h4⟩ := h
  have tu : ∀ {a : Addr} {xs : List V}, H a = some (.tup xs) → H' a = some (.tup xs) := fun z => o.get hd z (fun _ z => nomatch z)
  refine ⟨dx, v, q, cs, o.get hd h1 (fun _ z => nomatch z), h2.via (fun a xs z => tu z) (fun a ps z => ?_), tu h3, h4⟩
  obtain ⟨vs, hv, tv⟩ := z
  exact ⟨vs, tu hv, Paired.mapP tv fun _ _ ⟨a, e, ha⟩ => ⟨a, e, tu ha⟩⟩
theorem Tru.offD {U C D d : Addr} {H H' : Hp} {l : List (List Key × V)} (e : OffD d H H') (hd : H d = some (.dT l)) {x kd od sd : Addr} {z : Tw} (h : Tru U C D H x kd od sd z) (n1 : kd ≠ d) (n2 : od ≠ d) (n3 : sd ≠ d) : Tru U C D H' x kd od sd z := by
  obtain ⟨⟨dx, tx, fx, h1, h2, h3⟩, h4, h5, h6, m1, m2, m3, o, r, p⟩ := h
  exact ⟨⟨dx, tx, fx, e.get hd h1 (fun _ z => nomatch z), h2.offD e hd, Fil.offD e hd h3⟩, e _ _ n1 h4, e _ _ n2 h5, e _ _ n3 h6, m1, m2, m3, o, r, p⟩
def lastR : List Stp → List (List Key × V)
  | [] => []
  | s :: rs => putK (lastR rs) (kk s.ns) (vOf s.new)
def atR : List Stp → List (List Key × V)
  | [] => []
  | s :: rs => putK (atR rs) (kk s.ns) (.int ((rs.length + 1 : Nat) : Int))
def lastOf (ss : List Stp) : List (List Key × V) := lastR ss.reverse
def atOf (ss : List Stp) : List (List Key × V) := atR ss.reverse
theorem lastOf_snoc (ss : List Stp) (s : Stp) : lastOf (ss ++ [s]) = putK (lastOf ss) (kk s.ns) (vOf s.new) := by
  unfold lastOf
  rw [List.reverse_append]
  rfl
theorem atOf_snoc (ss : List Stp) (s : Stp) : atOf (ss ++ [s]) = putK (atOf ss) (kk s.ns) (.int ((ss.length + 1 : Nat) : Int)) := by
  unfold atOf
  rw [List.reverse_append]
  show putK (atR ss.reverse) (kk s.ns) (.int ((ss.reverse.length + 1 : Nat) : Int)) = _
  rw [List.length_reverse]
theorem lastR_val : ∀ (rs : List Stp) (m : List Int), valV (lastR rs) (kk m) = (gR rs m).map fun _ => vOf (fR rs m)
  | [], _ => rfl
  | s :: rs, m => by
    show valV (putK (lastR rs) (kk s.ns) (vOf s.new)) (kk m) = (stepG (gR rs) s rs.length m).map fun _ => vOf (stepF (fR rs) s m)
    unfold stepG stepF
    rw [valV_put]
    by_cases e : m = s.ns
    · rw [if_pos (by rw [e]), if_pos e, if_pos e]
      rfl
    · rw [if_neg (fun z => e (kk_inj z)), if_neg e, if_neg e]
      exact lastR_val rs m
theorem atR_val : ∀ (rs : List Stp) (m : List Int), valV (atR rs) (kk m) = (gR rs m).map fun n : Nat => V.int (n : Int)
  | [], _ => rfl
  | s :: rs, m => by
    show valV (putK (atR rs) (kk s.ns) (.int ((rs.length + 1 : Nat) : Int))) (kk m) = (stepG (gR rs) s rs.length m).map fun n : Nat => V.int (n : Int)
    unfold stepG
    rw [valV_put]
    by_cases e : m = s.ns
    · rw [if_pos (by rw [e]), if_pos e]
      rfl
    · rw [if_neg (fun z => e (kk_inj z)), if_neg e]
      exact atR_val rs m
theorem fg : ∀ (rs : List Stp) (m : List Int) (p : Row), fR rs m = some p → (gR rs m).isSome = true
  | [], _, _, h => by cases h
  | s :: rs, m, p, h => by
    have h' : (if m = s.ns then s.new else fR rs m) = some p := h
    show (if m = s.ns then some (rs.length + 1) else gR rs m).isSome = true
    by_cases e : m = s.ns
    · rw [if_pos e]
      rfl
    · rw [if_neg e] at h' ⊢
      exact fg rs m p h'
theorem last_val (ss : List Stp) (m : List Int) : valV (lastOf ss) (kk m) = (gOf ss m).map fun _ => vOf (fOf ss m) := lastR_val _ _
theorem at_val (ss : List Stp) (m : List Int) : valV (atOf ss) (kk m) = (gOf ss m).map fun n : Nat => V.int (n : Int) := atR_val _ _
theorem last_get (ss : List Stp) (m : List Int) : (valV (lastOf ss) (kk m)).getD .non = vOf (fOf ss m) := by
  rw [last_val]
  cases e : gOf ss m with
  | some n => rfl
  | none =>
    cases ef : fOf ss m with
    | none => rfl
    | some p =>
      have := fg _ _ _ ef
      rw [show gR ss.reverse m = gOf ss m from rfl, e] at this
      cases this
theorem R_keys {R : List Int → Prop} : ∀ {rs : List Stp}, (∀ s, s ∈ rs → R s.ns) → (∀ p, p ∈ lastR rs → ∃ ns, p.1 = kk ns ∧ R ns) ∧ (∀ p, p ∈ atR rs → ∃ ns, p.1 = kk ns ∧ R ns) ∧ ((lastR rs).map (·.1)).Nodup ∧ ((atR rs).map (·.1)).Nodup ∧ (lastR rs).length ≤ rs.length ∧ (atR rs).length ≤ rs.length
  | [], _ => ⟨fun _ h => absurd h List.not_mem_nil, fun _ h => absurd h List.not_mem_nil, List.nodup_nil, List.nodup_nil, Nat.le_refl _, Nat.le_refl _⟩
  | s :: rs, h => by
    obtain ⟨a, b, c, d, e, f⟩ := R_keys (rs := rs) fun t ht => h t (List.mem_cons_of_mem _ ht)
    have one : ∀ {l : List (List Key × V)} {v : V}, (∀ p, p ∈ l → ∃ ns, p.1 = kk ns ∧ R ns) → ∀ p, p ∈ putK l (kk s.ns) v → ∃ ns, p.1 = kk ns ∧ R ns := fun {l v} a p hp => by
      rcases mem_put hp with z | ⟨q, hq, z⟩
      · exact ⟨s.ns, z, h s List.mem_cons_self⟩
      · rw [← z]
        exact a q hq
    exact ⟨one a, one b, put_nd c, put_nd d, Nat.le_trans (put_len _ _ _) (Nat.succ_le_succ e), Nat.le_trans (put_len _ _ _) (Nat.succ_le_succ f)⟩
theorem key_iff {kvs : List (List Key × V)} {nss : List (List Int)} (ki : keysIn kvs nss) (ns : List Int) : ns ∈ nss ↔ (valV kvs (kk ns)).isSome = true := by
  constructor
  · intro h
    obtain ⟨v, e⟩ := there_of (kvs := kvs) (k := kk ns) (by rw [ki]; exact List.mem_map.mpr ⟨ns, h, rfl⟩)
    rw [e]
    rfl
  · intro h
    obtain ⟨v, e⟩ := Option.isSome_iff_exists.mp h
    have m := valV_in e
    rw [ki] at m
    obtain ⟨ns', mn, en⟩ := List.mem_map.mp m
    rw [← kk_inj en]
    exact mn
theorem keys_nd {kvs : List (List Key × V)} {nss : List (List Int)} (ki : keysIn kvs nss) (nd : (kvs.map (·.1)).Nodup) : nss.Nodup := by
  have e : kvs.map (·.1) = nss.map kk := ki
  rw [e] at nd
  exact (List.pairwise_map.mp nd).imp fun a b => a (by rw [b])
/-- the rows that stand, by their keys in order -/
def stood (f : Fn) (mss : List (List Int)) : List V := mss.filterMap fun ns => (f ns).map fun p => V.ref p.1
theorem stood_snoc (f : Fn) (mss : List (List Int)) (m : List Int) : stood f (mss ++ [m]) = stood f mss ++ (match f m with
  | some p => [V.ref p.1]
  | none => []) := by
  unfold stood
  rw [List.filterMap_append]
  congr 1
  rw [List.filterMap_cons]
  cases f m <;> rfl
theorem stood_filter (f : Fn) : ∀ mss : List (List Int), stood f mss = (mss.filter fun m => (f m).isSome).map fun m => vOf (f m)
  | [] => rfl
  | m :: mss => by
    have ih := stood_filter f mss
    unfold stood at ih ⊢
    rw [List.filterMap_cons]
    cases e : f m with
    | none =>
      rw [List.filter_cons_of_neg (by rw [e]; decide)]
      exact ih
    | some p =>
      rw [List.filter_cons_of_pos (by rw [e]; rfl), List.map_cons, e]
      show V.ref p.1 :: _ = _
      rw [ih]
      rfl
theorem rows_stood {kvs : List (List Key × V)} {f : Fn} {nss mss : List (List Int)} (ki : keysIn kvs nss) (fv : ∀ m, valV kvs (kk m) = (f m).map fun p => V.ref p.1) (nd : nss.Nodup) (md : mss.Nodup) (sub : ∀ m p, f m = some p → m ∈ mss) : rowsOf kvs nss = stood f (sortN mss) := by
  have e : sortN nss = (sortN mss).filter fun m => (f m).isSome := by
    refine List.Perm.eq_of_pairwise (fun a b _ _ h1 h2 => List.le_antisymm h1 h2) (sortN_pair nss) ((sortN_pair mss).sublist List.filter_sublist) ?_
    refine (sortN_perm nss).trans ((List.perm_ext_iff_of_nodup nd (List.Pairwise.sublist List.filter_sublist ((sortN_perm mss).nodup_iff.mpr md))).mpr fun m => ?_)
    rw [List.mem_filter, key_iff ki, fv, (sortN_perm mss).mem_iff]
    cases ef : f m with
    | none => exact ⟨fun z => (nomatch z), fun z => (nomatch z.2)⟩
    | some p => exact ⟨fun _ => ⟨sub m p ef, rfl⟩, fun _ => rfl⟩
  rw [stood_filter, ← e]
  unfold rowsOf
  refine List.map_congr_left fun m _ => ?_
  rw [fv]
  cases f m <;> rfl
end Spk

set_option Elab.async false
set_option linter.all false
set_option maxRecDepth 100000
set_option maxHeartbeats 8000000
namespace Spk
open PySem L2
local macro_rules | `(tactic| walk_at "rd") => `(tactic| repeat (first
  | with_reducible refine i_seq ?_ | with_reducible refine i_asg ?_ | with_reducible refine i_ret ?_ | with_reducible refine i_ifS ?_ | with_reducible refine i_if ?_
  | with_reducible refine i_for ?_ | with_reducible refine i_iL ?_ | with_reducible refine i_iT ?_ | with_reducible refine i_ckw ?_ | with_reducible refine i_cm ?_ | with_reducible refine And.intro (rfl : V.ref _ = V.ref _) ?_ | with_reducible refine i_rng1 ?_ | with_reducible refine i_bm ?_ | with_reducible refine i_bm0 ?_
  | with_reducible refine i_drop ?_ | with_reducible refine i_next ?_
  | with_reducible refine i_var rfl ?_ | with_reducible refine i_c ?_ | with_reducible refine i_op ?_ | with_reducible refine i_un ?_ | with_reducible refine i_name ?_
  | with_reducible refine i_rI0 ?_ | with_reducible refine i_rU ?_ | with_reducible refine i_rEq rfl ?_ | with_reducible refine i_rNe rfl ?_
  | with_reducible refine i_test ?_ | with_reducible refine i_tB ?_ | with_reducible refine i_and ?_ | with_reducible refine i_or ?_ | with_reducible refine i_not ?_
  | with_reducible refine i_andV ?_ | with_reducible refine i_orV ?_ | with_reducible refine i_notV ?_
  | with_reducible refine i_cons ?_ | with_reducible refine i_nil ?_ | with_reducible refine i_cb ?_ | with_reducible refine i_call ?_ | with_reducible refine i_bl ?_
  | with_reducible refine i_tup ?_ | with_reducible refine i_lst ?_ | with_reducible refine i_par ?_ | with_reducible refine i_gcons ?_ | with_reducible refine i_gnil ?_
  | with_reducible refine And.intro (rfl : V.non = V.non) ?_ | with_reducible refine i_ixT (by assumption) rfl ?_ | with_reducible refine i_ixL (by assumption) rfl ?_ | with_reducible refine i_gtup (by assumption) rfl ?_
  | with_reducible refine i_gsub ?_
  | with_reducible refine Or.inl (Exists.intro _ (And.intro (rfl : [V.int _] = [V.int _]) ?_)) | with_reducible refine Exists.intro _ (And.intro (rfl : [V.int _] = [V.int _]) ?_)
  | with_reducible refine Or.inr (Exists.intro _ (And.intro (rfl : [V.bl _] = [V.bl _]) ?_))
  | with_reducible refine Exists.intro _ (Exists.intro _ (And.intro (rfl : [V.int _, V.int _] = [V.int _, V.int _]) ?_))
  | with_reducible refine Exists.intro _ (Exists.intro _ (And.intro (rfl : [V.ref _] = [V.ref _]) (And.intro (Or.inl (SqL.of (by assumption))) ?_)))
  | with_reducible refine i_rI (show (0 : Int) < _ by assumption) ?_ | with_reducible refine i_rI (show (0 : Int) < _ by decide) ?_
  | with_reducible refine i_rI (pow_ok (Nat.le_of_ble_eq_true rfl) (Nat.le_of_ble_eq_true rfl)) ?_
  | with_reducible refine i_rI (cmulL rfl) ?_))
/-! ### steps_right -/
theorem Mod.rowP {U C D : Addr} {H : Hp} {t : Tb} {r : Fi.Tr} {d : TD} {f : Fn} {g : Gn} {n m : Nat} (h : Mod U C D H t r d f g n m) (ns : List Int) : RowP H (vOf (f ns)) := by
  cases e : f ns with
  | none => exact .inl rfl
  | some p => exact .inr ⟨p.1, p.2, rfl, (h.fr ns p e).1, row_plain (h.fr ns p e).2.ok⟩
theorem dget_rd {H : Hp} {a b : Addr} {kvs : List (List Key × V)} {k : List Key} (e : Rd H a (.dT kvs)) (eb : H b = some (.tup (k.map kV))) : DGet H a (.ref b) (valV kvs k) := .inr ⟨kvs, k, b, e, rfl, eb, rfl⟩
theorem fg_of {ss : List Stp} {m : List Int} {p : Row} (h : fOf ss m = some p) : (gOf ss m).isSome = true := fg _ _ _ h
theorem ne_vrow {K : PySem.W.Frag} {H : Hp} {v : V} {Q : VK} (h : RowP H v) (q : Q (.bl false) H) : rNeD K v v H Q := ne_row h q
section
variable {P : Program} {w : World} {K : PySem.W.Frag} {mg : Str → Option Value} {base : Heap} {U C D fT pR gR pS gS : Addr} {mI mU mD mC' mW mO mS fL fC : Addr}
abbrev s_steps_right : Stmt := top 49
theorem sc_steps_right : FnScope ["_law_truth", "_law_steps", "_law_last", "_law_at", "_law_place", "_law_step", "_law_mine", "_law_old", "_law_new", "_law_standing"] ["_law_truth", "_law_steps"] (defScope s_steps_right) := ⟨rfl, rfl, rfl, by decide +kernel, rfl, by decide +kernel, by decide +kernel⟩
def sp_right (U C D : Addr) : Sp := fun vs H Q _ => ∃ ls, ∃ t : Tb, ∃ r d ss m qs, vs = [.ref d.x, .ref ls] ∧ Mod U C D H t r d (fOf ss) (gOf ss) ss.length m ∧ Steps t r ss ∧ H ls = some (.lst (qs.map V.ref)) ∧ StsAt H qs ss ∧ ss.length ≤ 100 ∧ m ≤ 100 ∧ ∀ H', Same H H' → Q (.bl true) H'
theorem ok_right {f : Addr} {fd fdR fdS : FuncData} (F : Fun K "_law_steps_right" "_law_steps_right" s_steps_right f fd) (TU : ClsU K mg U fT) (UN : ClsUN K U mI mU mD mC' mW mO mS fL fC)
    (UPr : PropOf K U "rows" pR gR) (UPs : PropOf K U "stamp" pS gS) (G_rows : FnOk P w K mg base CX0 2 gR fdR ["self"] (sp_urows U C D)) (B_rows : Binds K fdR ["self"] []) (G_stamp : FnOk P w K mg base CX0 1 gS fdS ["self"] (sp_ustamp U C D)) (B_stamp : Binds K fdS ["self"] [])
    (RU_stamp_of : FnR P w K mg base CX0 4 mS (fun vs H Q E => sp_ust K U C D (vs ++ []) H Q E))
    (z_enumerate : mg "enumerate" = none) (z_sorted : mg "sorted" = none) (z_list : mg "list" = none) (z_len : mg "len" = none) (z_tuple : mg "tuple" = none) :
    FnOk P w K mg base CX0 7 f fd ["_law_truth", "_law_steps"] (sp_right U C D) := by
  refine F.ok sc_steps_right (fun vs H Q E h => ?_) (fun cdv A outer s H vs Q E hr h => ?_)
  · obtain ⟨ls, t, r, d, ss, m, qs, rfl, _⟩ := h
    rfl
  · obtain ⟨ls, t, r, d, ss, m, qs, rfl, md, sts, hl, sa, sz, mz, q⟩ := h
    refine ⟨_, (pss_cons (ps_set (i := 2) sc_steps_right.nd rfl (Or.inr rfl) pe_dnewT)
 (pss_cons (ps_set (i := 3) sc_steps_right.nd rfl (Or.inr rfl) pe_dnewT)
 (pss_cons (ps_for PassesOwn.never rfl (pi_enum (by rfl) z_enumerate (pa_cons (pv 1) pa_nil)) (pg_tup (by rfl) (pgs_cons (pg_name (i := 4) sc_steps_right.nd rfl (Or.inl rfl)) (pgs_cons (pg_name (i := 5) sc_steps_right.nd rfl (Or.inl rfl)) pgs_nil)))
 (pss_cons (ps_asg (pv 5) (pg_tup (by rfl) (pgs_cons (pg_name (i := 6) sc_steps_right.nd rfl (Or.inl rfl)) (pgs_cons (pg_name (i := 7) sc_steps_right.nd rfl (Or.inl rfl)) (pgs_cons (pg_name (i := 8) sc_steps_right.nd rfl (Or.inl rfl)) pgs_nil)))))
 (pss_cons (ps_if (PW.pt (pw_or (pt_cmpR (op_neD hr.units) (pe_dget1 (Nat.lt_of_le_of_lt (Nat.add_le_add_left (by decide : 1 ≤ 64) _) hr.units) (pv 2) (pv 6) ⟨rfl, rfl, rfl, rfl⟩) (pv 7) (nomark _)) (pw_or1 (PW.pt (pw_and (pt_cmpR op_isN (pv 7) pe_non (nomark _)) (pw_and1 (pt_cmpR op_isN (pv 8) pe_non (nomark _))))))))
 (pss_one (ps_ret pe_bl))
 pss_nil)
 (pss_cons (ps_dput (Nat.lt_of_le_of_lt (Nat.add_le_add_left (by decide : 1 ≤ 64) _) hr.units) (pv 2) (pv 6) (pv 8) rfl)
 (pss_one (ps_dput (Nat.lt_of_le_of_lt (Nat.add_le_add_left (by decide : 1 ≤ 64) _) hr.units) (pv 3) (pv 6) (pe_op op_add (pv 4) pe_int) rfl))))))
 (pss_cons (ps_setLc (i := 9) (own := [("_law_mine", 6)]) (g := gName 6) rfl sc_steps_right.nd rfl rfl (sw_true rfl rfl rfl (by decide +kernel)) (pi_list (pe_callB (cr_sortN (roomN hr)) (by rfl) z_sorted (by decide +kernel) (pa_cons (pe_callTy (call_list_dT rfl) (by rfl) z_list (by decide +kernel) (pa_cons (pv 2) pa_nil)) pa_nil))) (blkOk_by (own := [("_law_mine", 6)]) (N := ["_law_truth", "_law_steps", "_law_last", "_law_at", "_law_place", "_law_step", "_law_mine", "_law_old", "_law_new", "_law_standing"]) (sc := defScope s_steps_right) (by decide +kernel)) (fun _ _ _ _ _ => pg_name (i := 6) sc_steps_right.nd rfl (Or.inl rfl)) (fun _ _ _ _ _ => pts_one (pt_cmpR op_notN (pe_dget (Nat.lt_of_le_of_lt (Nat.add_le_add_left (by decide : 1 ≤ 64) _) hr.units) (pv 2) (pv 6) (fun _ _ => rfl)) pe_non (nomark _))) (fun _ _ _ _ _ => (pe_dget (Nat.lt_of_le_of_lt (Nat.add_le_add_left (by decide : 1 ≤ 64) _) hr.units) (pv 2) (pv 6) (fun _ _ => rfl))))
 (pss_cons (ps_if (PW.pt (pw_or (pt_cmpR (op_neD hr.units) (pe_prop (pv 0) TU.cl UPr G_rows (hr.mono (by decide)) B_rows .nil pass0 rfl) (pe_callTy call_tuple_of (by rfl) z_tuple (by decide +kernel) (pa_cons (pv 9) pa_nil)) (nomark _)) (pw_or1 (pt_cmpR op_ne (pe_prop (pv 0) TU.cl UPs G_stamp (hr.mono (by decide)) B_stamp .nil pass0 rfl) (pe_callB call_len_seq (by rfl) z_len PySem.boot_len (pa_cons (pv 1) pa_nil)) (nomark _)))))
 (pss_one (ps_ret pe_bl))
 pss_nil)
 (pss_one (ps_ret (pe_cmpR (op_eqNil (roomU hr)) (pe_lock (pe_lc (own := [("_law_mine", 6)]) (g := gName 6) rfl sc_steps_right.nd (pi_keys (pv 3)) (blkOk_by (own := [("_law_mine", 6)]) (N := ["_law_truth", "_law_steps", "_law_last", "_law_at", "_law_place", "_law_step", "_law_mine", "_law_old", "_law_new", "_law_standing"]) (sc := defScope s_steps_right) (by decide +kernel)) (fun _ _ _ _ _ => pg_name (i := 6) sc_steps_right.nd rfl (Or.inl rfl)) (fun _ _ _ _ _ => pts_one (pt_cmpR op_ne (pe_methR (pv 0) TU.cl UN.stamp_of RU_stamp_of (hr.mono (by decide)) pass0 (pa_cons (pv 6) pa_nil)) (pe_dget (Nat.lt_of_le_of_lt (Nat.add_le_add_left (by decide : 1 ≤ 64) _) hr.units) (pv 3) (pv 6) (fun _ _ => rfl)) (nomark _))) (fun _ _ _ _ _ => (pv 6)))) (pe_lst pa_nil) (nomark _))))))))), ?_⟩
    walk_at "rd"
    unfold tDNewT
    intro la hla
    obtain ⟨H1, e1, s1, h1⟩ := new_heap (o := .dT []) hla
    rw [e1]
    walk_at "rd"
    intro lt hlt
    obtain ⟨H2, e2, s2, h2⟩ := new_heap (o := .dT []) hlt
    rw [e2]
    have s02 : Same H H2 := fun b o z => s2 _ _ (s1 _ _ z)
    have ha2 := s2 _ _ h1
    have lat : la ≠ lt := ne_of_none h1 hlt
    have flt : H lt = none := by
      cases e : H lt with
      | none => rfl
      | some o => rw [s1 _ _ e] at hlt; cases hlt
    walk_at "rd"
    refine i_iE ?_
    walk_at "rd"
    refine ⟨ls, _, rfl, SqL.of (s02 _ _ hl), for_enumL (K := K) (a := ls) (xs := qs.map V.ref) (fun i σ H' => ∃ y4 y5 y6 y7 y8, σ = [some (.ref d.x), some (.ref ls), some (.ref la), some (.ref lt), y4, y5, y6, y7, y8, none] ∧ Same H H' ∧ H' la = some (.dT (lastOf (ss.take i))) ∧ H' lt = some (.dT (atOf (ss.take i)))) ⟨_, _, _, _, _, rfl, s02, ha2, h2⟩ ?_ ?_ ?_⟩
    · rintro i σ H' _ ⟨_, _, _, _, _, _, s3, _⟩
      exact SqL.of (s3 _ _ hl)
    · rintro i x T' σ H3 hx ⟨y4, y5, y6, y7, y8, rfl, s3, ha3, ht3⟩ hT
      rw [List.getElem?_map] at hx
      obtain ⟨q0, hq0, rfl⟩ := Option.map_eq_some_iff.mp hx
      obtain ⟨st, es, b, hq, hb, ho, hn⟩ := pair_at sa hq0
      obtain ⟨H4, e4, s4, h4⟩ := new_heap (o := .tup [.int (i : Nat), .ref q0]) hT
      rw [e4]
      have s04 : Same H H4 := fun b o z => s4 _ _ (s3 _ _ z)
      have hq4 := s04 _ _ hq
      have hb4 := s04 _ _ hb
      have ha4 := s4 _ _ ha3
      have ht4 := s4 _ _ ht3
      have ok := sts.at_ es
      have hi : i < ss.length := (List.getElem?_eq_some_iff.mp es).1
      refine i_gtup h4 rfl (i_gcons ?_)
      walk_at "rd"
      unfold tDGet1
      walk_at "rd"
      refine ⟨la, rfl, .inr ⟨_, .inl ha4⟩, ?_⟩
      walk_at "rd"
      refine ⟨_, DGet.t (k := kk st.ns) ha4 (by rw [kk_v]; exact hb4), ?_⟩
      rw [last_get, ← ok.old]
      have rp : RowP H4 (vOf st.old) := by
        cases e : st.old with
        | none => exact .inl rfl
        | some p => exact .inr ⟨p.1, p.2, rfl, s04 _ _ (ho p e).1, (ho p e).2⟩
      walk_at "rd"
      refine ne_row rp ⟨_, rfl, iteF ?_⟩
      walk_at "rd"
      have fin : ∀ H5, upd H4 la (.dT (putK (lastOf (ss.take i)) (kk st.ns) (vOf st.new))) = H5 → Same H H5 ∧ H5 la = some (.dT (lastOf (ss.take (i + 1)))) ∧ H5 lt = some (.dT (atOf (ss.take i))) ∧ H5 b = some (.tup (st.ns.map V.int)) := fun H5 e5 => by
        have bla : b ≠ la := fun e => by rw [e, ha4] at hb4; cases hb4
        refine ⟨?_, ?_, ?_, ?_⟩
        · rw [← e5]
          exact Same.mut s04 hla
        · rw [← e5, upd_same, take_snoc es, lastOf_snoc]
        · rw [← e5, upd_ne lat.symm]
          exact ht4
        · rw [← e5, upd_ne bla]
          exact hb4
      by_cases hold : st.old = none
      case' pos =>
        rw [decide_eq_true (vOf_non.mpr hold)]
        refine iteT ?_
        walk_at "rd"
        rw [decide_eq_false (fun e => (ok.ins hold).1 (vOf_non.mp e))]
        refine iteF ?_
      case' neg =>
        rw [decide_eq_false (fun e => hold (vOf_non.mp e))]
        refine iteF ?_
        refine iteF ?_
      all_goals
        unfold sDPut
        walk_at "rd"
        have rk := R_keys (R := fun _ => True) (rs := (ss.take i).reverse) fun _ _ => trivial
        have tl : (ss.take i).length = i := by rw [List.length_take]; omega
        obtain ⟨_, _, _, _, k5, k6⟩ := rk
        rw [List.length_reverse, tl] at k5 k6
        refine ⟨la, _, rfl, DPut.t (k := kk st.ns) ha4 (by rw [kk_v]; exact hb4) (size_lt (by show (lastR (ss.take i).reverse).length ≤ 100000; omega)), ?_⟩
        obtain ⟨H5, e5⟩ : ∃ H5, upd H4 la (.dT (putK (lastOf (ss.take i)) (kk st.ns) (vOf st.new))) = H5 := ⟨_, rfl⟩
        obtain ⟨s5, ha5, ht5, hb5⟩ := fin H5 e5
        rw [e5]
        walk_at "rd"
        refine ⟨lt, _, rfl, DPut.t (k := kk st.ns) ht5 (by rw [kk_v]; exact hb5) (size_lt (by show (atR (ss.take i).reverse).length ≤ 100000; omega)), ?_⟩
        refine ⟨_, _, _, _, _, rfl, Same.mut s5 flt, ?_, ?_⟩
        · rw [upd_ne lat]
          exact ha5
        · rw [upd_same, take_snoc es, atOf_snoc, tl]
          rfl
    · rintro σ H3 ⟨y4, y5, y6, y7, y8, rfl, s3, ha3, ht3⟩
      rw [List.length_map, Paired.length sa, List.take_length] at ha3 ht3
      obtain ⟨ra, rt, na, nt, za, zt⟩ := R_keys (R := fun m => m.length = t.ks.length ∧ Tiny m) (rs := ss.reverse) fun st hst => by
        obtain ⟨i, hi⟩ := List.getElem?_of_mem (List.mem_reverse.mp hst)
        exact ⟨(sts.at_ hi).len, (sts.at_ hi).tiny⟩
      obtain ⟨mss, mki, mkz⟩ := keys_ex (kvs := lastOf ss) ra
      have md3 := md.up s3
      have mnd := keys_nd mki na
      have k0 := md.tr.ok.k0
      rw [md.zt] at k0
      have nn : ∀ ns, ns ∈ mss → ns ≠ [] := fun ns h e => k0 (List.eq_nil_of_length_eq_zero (by rw [← (mkz ns h).1, e]; rfl))
      have mlen : mss.length ≤ 100 := by
        have := congrArg List.length mki
        rw [List.length_map, List.length_map] at this
        rw [List.length_reverse] at za
        have z2 : (lastOf ss).length ≤ ss.length := za
        omega
      walk_at "rd"
      unfold tLc
      walk_at "rd"
      refine ⟨la, _, rfl, .inl ha3, fun l bs hl2 ik => ?_⟩
      obtain ⟨H4, e4, s4, h4⟩ := new_heap (o := .lst (bs.map V.ref)) hl2
      rw [e4]
      walk_at "rd"
      have tb : TupsN H4 bs mss := Paired.mapP (keys_tups ik mki) fun _ _ z => s4 _ _ z
      refine ⟨l, bs, mss, rfl, SqL.of h4, tb, nn, fun l2 bs' hl3 tb' => ?_⟩
      obtain ⟨H5, e5, s5, h5⟩ := new_heap (o := .lst (bs'.map V.ref)) hl3
      rw [e5]
      have tb5 : TupsN H5 bs' (sortN mss) := Paired.mapP tb' fun _ _ z => s5 _ _ z
      have s35 : Same H3 H5 := fun b o z => s5 _ _ (s4 _ _ z)
      refine ⟨l2, rfl, ⟨_, SqL.of h5⟩, fun G hG => ?_⟩
      obtain ⟨H6, e6, s6, h6⟩ := new_heap (o := .lst []) hG
      refine lc_list (K := K) (a := l2) (xs := bs'.map V.ref) (fun i H' => Same H5 H' ∧ H' G = some (.lst (stood (fOf ss) ((sortN mss).take i)))) ⟨by rw [e6]; exact s6, by rw [e6]; exact h6⟩ ?_ ?_ ?_
      · rintro i H' _ ⟨s7, _⟩
        exact SqL.of (s7 _ _ h5)
      · rintro i y H7 hy ⟨s7, h7⟩
        rw [List.getElem?_map] at hy
        obtain ⟨b, hb, rfl⟩ := Option.map_eq_some_iff.mp hy
        obtain ⟨ns, en, hbn⟩ := pair_at tb5 hb
        have mem : ns ∈ mss := (sortN_perm mss).mem_iff.mp (List.mem_of_getElem? en)
        have sn := stood_snoc (fOf ss) ((sortN mss).take i) ns
        obtain ⟨v, ev⟩ := Option.isSome_iff_exists.mp ((key_iff mki ns).mp mem)
        have vv : v = vOf (fOf ss ns) := by
          have := last_get ss ns
          rw [ev] at this
          exact this
        have g7 : DGet H7 la (.ref b) (some v) := by
          rw [← ev]
          exact DGet.t (s7 _ _ (s35 _ _ ha3)) (by rw [kk_v]; exact s7 _ _ hbn)
        walk_at "rd"
        refine ⟨rfl, ?_⟩
        walk_at "rd"
        unfold tDGet
        walk_at "rd"
        refine ⟨la, v, rfl, g7, ?_⟩
        walk_at "rd"
        cases ef : fOf ss ns with
        | none =>
          rw [ef] at sn vv
          rw [decide_eq_true (show v = V.non from vv)]
          refine iteF ?_
          show Same H5 H7 ∧ H7 G = some (.lst (stood (fOf ss) ((sortN mss).take (i + 1))))
          exact ⟨s7, by rw [take_snoc en, sn, List.append_nil]; exact h7⟩
        | some p =>
          rw [ef] at sn vv
          rw [decide_eq_false (show ¬ v = V.non from fun e => by rw [vv] at e; cases e)]
          refine iteT ?_
          walk_at "rd"
          refine ⟨la, v, rfl, g7, ?_⟩
          refine ⟨_, h7, size_lt ?_, Same.mut s7 hG, ?_⟩
          · have := List.length_filterMap_le (fun ns => (fOf ss ns).map fun p : Row => V.ref p.1) ((sortN mss).take i)
            have l2 : (stood (fOf ss) ((sortN mss).take i)).length ≤ ((sortN mss).take i).length := this
            rw [List.length_take] at l2
            have l3 := (sortN_perm mss).length_eq
            omega
          · rw [upd_same, take_snoc en, sn, vv]
            rfl
      · rintro H7 ⟨s7, h7⟩
        rw [List.length_map, Paired.length tb5, List.take_length] at h7
        have s37 : Same H3 H7 := fun b o z => s7 _ _ (s35 _ _ z)
        have md7 := md3.up s37
        obtain ⟨dx, tx, fx, hx7, _⟩ := md7.tr.ex
        have knn : ∀ ns, ns ∈ d.nss → ns ≠ [] := fun ns h e => k0 (List.eq_nil_of_length_eq_zero (by rw [← (md.kz ns h).1, e]; rfl))
        have klen : d.nss.length ≤ 1000 := by
          have := congrArg List.length md.ki
          rw [List.length_map, List.length_map] at this
          have := md.lk
          omega
        walk_at "rd"
        unfold tProp
        walk_at "rd"
        refine ⟨d.x, dx, _, rfl, hx7, d.x, d.k, d.o, d.s, d.z, d.nss, rfl, md7.tr, md7.ki, knn, klen, fun p1 H8 s8 h8 => ?_⟩
        walk_at "rd"
        refine ⟨G, _, rfl, .inl ⟨SqL.of (s8 _ _ h7), fun p2 hp2 => ?_⟩⟩
        obtain ⟨H9, e9, s9, h9⟩ := new_heap (o := .tup (stood (fOf ss) (sortN mss))) hp2
        rw [e9]
        have s79 : Same H7 H9 := fun b o z => s9 _ _ (s8 _ _ z)
        have md9 := md7.up s79
        have er : rowsOf d.z.kvs d.nss = stood (fOf ss) (sortN mss) := rows_stood md.ki md.fv md.nd mnd fun m p e => (key_iff mki m).mpr (by
          rw [last_val]
          obtain ⟨n, en⟩ := Option.isSome_iff_exists.mp (fg_of e)
          rw [en]
          rfl)
        rw [er] at h8
        refine ne_rows (s9 _ _ h8) h9 (fun v hv => ?_) ⟨_, rfl, iteF ?_⟩
        · rw [stood_filter] at hv
          obtain ⟨m', _, rfl⟩ := List.mem_map.mp hv
          exact md9.rowP m'
        walk_at "rd"
        refine ⟨d.x, dx, _, rfl, s79 _ _ hx7, d.x, d.k, d.o, d.s, d.z, rfl, md9.tr, ?_⟩
        have hl9 := s79 _ _ (s37 _ _ (s3 _ _ hl))
        walk_at "rd"
        rw [decide_eq_true (show V.int (d.z.n : Int) = V.int ((qs.map V.ref).length : Int) by rw [md.zn, List.length_map, Paired.length sa])]
        refine iteF ?_
        walk_at "rd"
        have s09 : Same H H9 := fun b o z => s79 _ _ (s37 _ _ (s3 _ _ z))
        have ht9 : H9 lt = some (.dT (atOf ss)) := s79 _ _ (s37 _ _ ht3)
        refine ⟨lt, .dT (atOf ss), ht9, trivial, fun fo => ?_⟩
        obtain ⟨H10, e10⟩ : ∃ H10, upd H9 lt (.frz fo (.dT (atOf ss))) = H10 := ⟨_, rfl⟩
        have o10 : OffD lt H9 H10 := by rw [← e10]; exact offD_upd
        have f10 : H10 lt = some (.frz fo (.dT (atOf ss))) := by rw [← e10, upd_same]
        have back : ∀ H', Same H10 H' → Same H (upd H' lt (.dT (atOf ss))) := fun H' s b o hb => by
          have bl : b ≠ lt := ne_of_none hb flt
          rw [upd_ne bl]
          exact s _ _ (o10 _ _ bl (s09 _ _ hb))
        rw [e10]
        have tr10 : Tru U C D H10 d.x d.k d.o d.s d.z := md9.tr.offD o10 ht9 (ne_of_none md.tr.hk flt) (ne_of_none md.tr.ho flt) (ne_of_none md.tr.hs flt)
        have hx10 : H10 d.x = some _ := o10.get ht9 (s79 _ _ hx7) (fun _ z => nomatch z)
        unfold iKeys
        walk_at "rd"
        refine ⟨lt, fo, rfl, .inr ⟨atOf ss, f10, fun D' hD' => ?_⟩⟩
        obtain ⟨H11, e11, s11, h11⟩ := new_heap (o := .lst []) hD'
        refine lc_it (walk_keysT (d := lt) (o := fo) (kvs := atOf ss)) (fun i H' => Same H10 H' ∧ H' D' = some (.lst [])) ⟨by rw [e11]; exact s11, by rw [e11]; exact h11⟩ ?_ ?_ ?_
        · rintro i H' _ ⟨s12, _⟩
          exact s12 _ _ f10
        · rintro i y H12 H12' hi ⟨s12, h12⟩ ⟨e12, k, v, b, ek, rfl, hb⟩
          subst e12
          obtain ⟨ns, rfl, nl, tn⟩ := rt _ (List.mem_of_getElem? ek)
          have memk : kk ns ∈ (atOf ss).map (·.1) := List.mem_map.mpr ⟨_, List.mem_of_getElem? ek, rfl⟩
          obtain ⟨v', ev⟩ := there_of memk
          have ev2 := ev
          rw [at_val] at ev2
          obtain ⟨n', en, rfl⟩ := Option.map_eq_some_iff.mp ev2
          rw [kk_v] at hb
          have ka : KeyAt H12' b ns d.z.t.ks.length := ⟨hb, by rw [md.zt]; exact nl, tn⟩
          walk_at "rd"
          refine ⟨rfl, ?_⟩
          walk_at "rd"
          refine i_methR ?_
          walk_at "rd"
          refine ⟨d.x, dx, _, rfl, s12 _ _ hx10, lt_meth (.inr (.inr (.inr (.inr (.inr (.inr rfl)))))), ?_⟩
          walk_at "rd"
          refine ⟨d.x, d.k, d.o, d.s, d.z, .ref b, some ns, rfl, tr10.up s12, .inl ⟨b, ns, rfl, ka, rfl⟩, fun H13 s13 => ?_⟩
          have g1 : DGet H13 lt (.ref b) (valV (atOf ss) (kk ns)) := dget_rd (.inr ⟨_, s13 _ _ (s12 _ _ f10)⟩) (by rw [kk_v]; exact s13 _ _ hb)
          rw [ev] at g1
          unfold tDGet
          walk_at "rd"
          refine ⟨lt, _, rfl, g1, ?_⟩
          have eg : gotV d.z.sts (some ns) (.int 0) = .int (n' : Int) := by
            simp only [gotV]
            rw [md.gv, en]
            rfl
          rw [eg]
          walk_at "rd"
          rw [decide_eq_true rfl]
          refine iteF ?_
          exact ⟨fun b o z => s13 _ _ (s12 _ _ z), s13 _ _ h12⟩
        · rintro H12 ⟨s12, h12⟩
          refine ⟨s12 _ _ f10, ?_⟩
          have dl : D' ≠ lt := fun e => by rw [e, f10] at hD'; cases hD'
          walk_at "rd"
          refine ⟨Nat.zero_le _, fun l3 hl3 => ?_⟩
          obtain ⟨H13, e13, s13, h13⟩ := new_heap (o := .lst []) hl3
          rw [e13]
          refine ⟨D', l3, [], rfl, rfl, s13 _ _ (by rw [upd_ne dl]; exact h12), h13, ?_⟩
          exact q H13 fun b o z => s13 _ _ (back H12 s12 _ _ z)
end
end Spk

set_option Elab.async false
set_option linter.all false
set_option maxRecDepth 100000
set_option maxHeartbeats 4000000
namespace Spk
open PySem L2
local macro_rules | `(tactic| walk_at "rd") => `(tactic| repeat (first
  | with_reducible refine i_seq ?_ | with_reducible refine i_asg ?_ | with_reducible refine i_ret ?_ | with_reducible refine i_ifS ?_ | with_reducible refine i_if ?_
  | with_reducible refine i_for ?_ | with_reducible refine i_iL ?_ | with_reducible refine i_iT ?_ | with_reducible refine i_ckw ?_ | with_reducible refine i_cm ?_ | with_reducible refine And.intro (rfl : V.ref _ = V.ref _) ?_ | with_reducible refine i_rng1 ?_ | with_reducible refine i_bm ?_ | with_reducible refine i_bm0 ?_
  | with_reducible refine i_drop ?_ | with_reducible refine i_next ?_
  | with_reducible refine i_var rfl ?_ | with_reducible refine i_c ?_ | with_reducible refine i_op ?_ | with_reducible refine i_un ?_ | with_reducible refine i_name ?_
  | with_reducible refine i_rI0 ?_ | with_reducible refine i_rU ?_ | with_reducible refine i_rEq rfl ?_ | with_reducible refine i_rNe rfl ?_
  | with_reducible refine i_test ?_ | with_reducible refine i_tB ?_ | with_reducible refine i_and ?_ | with_reducible refine i_or ?_ | with_reducible refine i_not ?_
  | with_reducible refine i_andV ?_ | with_reducible refine i_orV ?_ | with_reducible refine i_notV ?_
  | with_reducible refine i_cons ?_ | with_reducible refine i_nil ?_ | with_reducible refine i_cb ?_ | with_reducible refine i_call ?_ | with_reducible refine i_bl ?_
  | with_reducible refine i_tup ?_ | with_reducible refine i_lst ?_ | with_reducible refine i_par ?_ | with_reducible refine i_gcons ?_ | with_reducible refine i_gnil ?_
  | with_reducible refine And.intro (rfl : V.non = V.non) ?_ | with_reducible refine i_ixT (by assumption) rfl ?_ | with_reducible refine i_ixL (by assumption) rfl ?_ | with_reducible refine i_gtup (by assumption) rfl ?_
  | with_reducible refine i_gsub ?_
  | with_reducible refine Or.inl (Exists.intro _ (And.intro (rfl : [V.int _] = [V.int _]) ?_)) | with_reducible refine Exists.intro _ (And.intro (rfl : [V.int _] = [V.int _]) ?_)
  | with_reducible refine Or.inr (Exists.intro _ (And.intro (rfl : [V.bl _] = [V.bl _]) ?_))
  | with_reducible refine Exists.intro _ (Exists.intro _ (And.intro (rfl : [V.int _, V.int _] = [V.int _, V.int _]) ?_))
  | with_reducible refine Exists.intro _ (Exists.intro _ (And.intro (rfl : [V.ref _] = [V.ref _]) (And.intro (Or.inl (SqL.of (by assumption))) ?_)))
  | with_reducible refine i_rI (show (0 : Int) < _ by assumption) ?_ | with_reducible refine i_rI (show (0 : Int) < _ by decide) ?_
  | with_reducible refine i_rI (pow_ok (Nat.le_of_ble_eq_true rfl) (Nat.le_of_ble_eq_true rfl)) ?_
  | with_reducible refine i_rI (cmulL rfl) ?_))
/-! ### steps made -/
theorem wordV_w (b : Addr) (s : Stp) : (wordV b s.old s.new).1 = wordS s := by
  unfold wordV wordS
  split
  · rfl
  · split <;> rfl
theorem off_same {H H1 H2 : Hp} {x kd od sd : Addr} (e : Same H H1) (o : OffT x kd od sd H1 H2) (hx : H x = none) (hk : H kd = none) (ho : H od = none) (hs : H sd = none) : Same H H2 := fun c v h => o c v (ne_of_none h hx) (ne_of_none h hk) (ne_of_none h ho) (ne_of_none h hs) (e c v h)
section
variable {U C D : Addr} {H H' : Hp} {t : Tb} {r : Fi.Tr} {d : TD} {f : Fn} {g : Gn} {n m : Nat}
theorem Mod.call {w : Str} {y : V} {ns : List Int} {Q : VK} {E : XK} (h : Mod U C D H t r d f g n m) (wi : Wish H t w y ns) (hm : m ≤ 900) (no : ∀ rs, dueW H d.z w ns y = some rs → ∀ p H', Same H H' → H' p = some (.tup [.str "refused", .str rs]) → Q (.ref p) H')
    (yes : dueW H d.z w ns y = none → ∀ p t' b H', OffT d.x d.k d.o d.s H H' → Tru U C D H' d.x d.k d.o d.s (chg H d.z w ns y b) → H' b = some (.tup (ns.map V.int)) → H' t' = some (.tup [.ref b, vOf (f ns), if w = "delete" then .non else y]) → H' p = some (.tup [.str "told", .ref t']) → Q (.ref p) H') :
    sp_call U C D [.ref d.x, .str w, y] H Q E := by
  have lk := h.lk
  have ls := h.ls
  have lo := h.lo
  refine ⟨d.x, d.k, d.o, d.s, d.z, w, y, ns, rfl, h.tr, h.oo, h.so, by rw [h.zt]; exact wi, h.ri, h.ow ns, by omega, by omega, by omega, no, fun dn p t' b H' o tr ka ht hp => ?_⟩
  rw [h.old] at ht
  exact yes dn p t' b H' o tr ka.at_ ht hp
theorem StepOk.wish {s : Stp} (ok : StepOk t r f g s) (hn : ∀ p, s.new = some p → H p.1 = some (.tup p.2)) {b : Addr} (hb : H b = some (.tup (s.ns.map V.int))) : Wish H t (wordS s) (wordV b s.old s.new).2 s.ns := by
  have row : ∀ p (w : Str), s.new = some p → (w = "insert" ∨ w = "update") → Wish H t w (vOf s.new) s.ns := fun p w e hw => .inr ⟨hw, p.1, p.2, by rw [e]; rfl, hn p e, (ok.row p e).1.ok, (ok.row p e).1.pk, ok.tiny, ok.len⟩
  unfold wordS wordV
  by_cases ho : s.old = none
  · rw [if_pos ho, if_pos ho]
    cases e : s.new with
    | none => exact absurd e (ok.ins ho).1
    | some p =>
      rw [← e]
      exact row p _ e (.inl rfl)
  · rw [if_neg ho, if_neg ho]
    cases e : s.new with
    | none =>
      rw [if_pos rfl, if_pos rfl]
      exact .inl ⟨rfl, b, rfl, hb, ok.len, ok.tiny⟩
    | some p =>
      rw [if_neg (fun z => nomatch z), if_neg (fun z => nomatch z), ← e]
      exact row p _ e (.inr rfl)
theorem wordV_new {b : Addr} {s : Stp} (ok : StepOk t r f g s) : (if wordS s = "delete" then V.non else (wordV b s.old s.new).2) = vOf s.new := by
  by_cases hd : wordS s = "delete"
  · rw [if_pos hd, (wordS_del ok).mp hd]
    rfl
  · rw [if_neg hd]
    have hn : s.new ≠ none := fun e => hd ((wordS_del ok).mpr e)
    unfold wordV
    by_cases ho : s.old = none
    · rw [if_pos ho]
    · rw [if_neg ho, if_neg hn]
/-- a step that can be made is made -/
theorem Mod.callStep {s : Stp} {b : Addr} {Q : VK} {E : XK} (h : Mod U C D H t r d f g n m) (ok : StepOk t r f g s) (hn : ∀ p, s.new = some p → H p.1 = some (.tup p.2)) (hb : H b = some (.tup (s.ns.map V.int))) (hm : m ≤ 900)
    (q : ∀ p t' b' H' z' nss', OffT d.x d.k d.o d.s H H' → Mod U C D H' t r ⟨d.x, d.k, d.o, d.s, z', nss'⟩ (stepF f s) (stepG g s n) (n + 1) (m + 1) → H' p = some (.tup [.str "told", .ref t']) → H' t' = some (.tup [.ref b', vOf s.old, vOf s.new]) → H' b' = some (.tup (s.ns.map V.int)) → Q (.ref p) H') :
    sp_call U C D [.ref d.x, .str (wordV b s.old s.new).1, (wordV b s.old s.new).2] H Q E := by
  rw [wordV_w]
  have ey := wordV_new (b := b) ok
  have dn := h.can ok hn (y := (wordV b s.old s.new).2) fun e => by
    have hd : ¬ wordS s = "delete" := fun z => e ((wordS_del ok).mp z)
    rw [if_neg hd] at ey
    exact ey
  refine h.call (ok.wish hn hb) hm (fun rs e => ?_) fun _ p t' b' H' o tr hb' ht hp => ?_
  · rw [dn] at e
    cases e
  · obtain ⟨nss', md⟩ := h.next ok hn rfl ey o tr hb'
    rw [ey, ← ok.old] at ht
    exact q p t' b' H' _ nss' o md hp ht hb'
end
section
variable {P : Program} {w : World} {K : PySem.W.Frag} {mg : Str → Option Value} {base : Heap} {U C D fT pR gR pS gS : Addr} {mI mU mD mC' mW mO mS fL fC : Addr}
theorem spU_mod {H : Hp} {tx fx x dx : Addr} {t : Tb} {r : Fi.Tr} {R : Hp → Prop} (hx : H x = none) (hdx : H dx = none) (hne : dx ≠ x) (ht : Tab C H tx t) (hf : Fi.Fil D H fx r) (ok : TbOk t) (rc : ∀ c, c ∈ r.cols → c ∈ t.ks) (dp : r.deep ≤ 20)
    (q : ∀ kd od sd H', Same H H' → H kd = none → H od = none → H sd = none → Mod U C D H' t r ⟨x, kd, od, sd, ⟨t, r, [], [], [], 0⟩, []⟩ (fOf []) (gOf []) 0 0 → R H') :
    spU U [.ref x, .ref tx, .ref fx] (upd (upd H dx (.own x)) x (.ins U dx [])) (fun v H3 => v = .non ∧ R H3) E0 := by
  refine ⟨x, dx, tx, fx, rfl, upd_same, fun kd od sd H' off hk ho hs n1 n2 n3 kx ox sx h1 h2 h3 h4 => ⟨rfl, ?_⟩⟩
  have s : Same H H' := fun b o e => by
    have b1 : b ≠ x := ne_of_none e hx
    have b2 : b ≠ dx := ne_of_none e hdx
    exact off b o b1 (by rw [upd_ne b1, upd_ne b2]; exact e)
  have fresh : ∀ {a : Addr}, a ≠ x → (upd (upd H dx (.own x)) x (.ins U dx [])) a = none → H a = none := fun {a} n h => by
    rw [upd_ne n] at h
    by_cases e : a = dx
    · rw [e, upd_same] at h
      cases h
    · rw [upd_ne e] at h
      exact h
  refine q kd od sd H' s (fresh kx hk) (fresh ox ho) (fresh sx hs) ⟨⟨⟨dx, tx, fx, h1, ht.up s, hf.up s⟩, h2, h3, h4, n1, n2, n3, ok, rc, dp⟩, rfl, rfl, rfl, List.nodup_nil, fun _ h => absurd h List.not_mem_nil, rfl, fun _ => rfl, fun _ _ e => (nomatch e), fun _ => rfl, fun _ _ e => (nomatch e), fun _ _ _ e => (nomatch e), fun _ _ e => (nomatch e), Nat.le_refl _, Nat.le_refl _, Nat.le_refl _⟩
abbrev s_made_anew : Stmt := top 50
theorem sc_made_anew : FnScope ["_law_table", "_law_region_here", "_law_steps", "_law_found", "_law_step", "_law_word_here", "_law_thing"] ["_law_table", "_law_region_here", "_law_steps"] (defScope s_made_anew) := ⟨rfl, rfl, rfl, by decide +kernel, rfl, by decide +kernel, by decide +kernel⟩
def sp_anew (U C D : Addr) : Sp := fun vs H Q _ => ∃ tx fx ls, ∃ t : Tb, ∃ r ss qs, vs = [.ref tx, .ref fx, .ref ls] ∧ Tab C H tx t ∧ Fi.Fil D H fx r ∧ TbOk t ∧ (∀ c, c ∈ r.cols → c ∈ t.ks) ∧ r.deep ≤ 20 ∧ Steps t r ss ∧ H ls = some (.lst (qs.map V.ref)) ∧ StsAt H qs ss ∧ ss.length ≤ 100 ∧
  ∀ d H', Same H H' → Mod U C D H' t r d (fOf ss) (gOf ss) ss.length ss.length → H d.x = none → H d.k = none → H d.o = none → H d.s = none → Q (.ref d.x) H'
theorem ok_anew {f fW fH : Addr} {fd fdW fdH : FuncData} (F : Fun K "_law_made_anew" "_law_made_anew" s_made_anew f fd) (TU : ClsU K mg U fT) (RUI : FnR P w K mg base CX0 1 fT (spU U))
    (F_word : Fun K "_law_word" "_law_word" s_word fW fdW) (B_word : Binds K fdW ["_law_step"] []) (g_word : mg "_law_word" = some (.ref fW)) (G_word : FnOk P w K mg base CX0 1 fW fdW ["_law_step"] sp_word)
    (F_call : Fun K "_law_call" "_law_call" s_call fH fdH) (B_call : Binds K fdH ["_law_truth", "_law_word_here", "_law_thing"] []) (g_call : mg "_law_call" = some (.ref fH)) (G_call : FnOk P w K mg base CX0 27 fH fdH ["_law_truth", "_law_word_here", "_law_thing"] (sp_call U C D)) :
    FnOk P w K mg base CX0 28 f fd ["_law_table", "_law_region_here", "_law_steps"] (sp_anew U C D) := by
  refine F.ok sc_made_anew (fun vs H Q E h => ?_) (fun cdv A outer s H vs Q E hr h => ?_)
  · obtain ⟨tx, fx, ls, t, r, ss, qs, rfl, _⟩ := h
    rfl
  · obtain ⟨tx, fx, ls, t, r, ss, qs, rfl, tb, fl, ok, rc, dp, sts, hl, sa, sz, q⟩ := h
    refine ⟨_, (pss_cons (ps_set (i := 3) sc_made_anew.nd rfl (Or.inl rfl) (StX.pe_makeR TU.M RUI (hr.mono (by decide)) rfl TU.g_U pass0 (pa_cons (pv 0) (pa_cons (pv 1) pa_nil))))
 (pss_cons (ps_for PassesOwn.never rfl (pi_list (pv 2)) (pg_name (i := 4) sc_made_anew.nd rfl (Or.inl rfl))
 (pss_cons (ps_asg (pe_call G_word (hr.mono (by decide)) rfl g_word F_word.kp B_word .nil pass0 (pa_cons (pv 4) pa_nil)) (pg_tup (by rfl) (pgs_cons (pg_name (i := 5) sc_made_anew.nd rfl (Or.inl rfl)) (pgs_cons (pg_name (i := 6) sc_made_anew.nd rfl (Or.inl rfl)) pgs_nil))))
 (pss_one (ps_if (pt_cmpR (op_neD hr.units) (pe_call G_call (hr.mono (by decide)) rfl g_call F_call.kp B_call .nil pass0 (pa_cons (pv 3) (pa_cons (pv 5) (pa_cons (pv 6) pa_nil)))) (pe_tup (pa_cons pe_str (pa_cons (pv 4) pa_nil))) (nomark _))
 (pss_one (ps_ret pe_non))
 pss_nil))))
 (pss_one (ps_ret (pv 3))))), ?_⟩
    walk_at "rd"
    unfold StX.tMakeR
    walk_at "rd"
    intro x dx hx hdx hne
    refine spU_mod hx hdx hne tb fl ok rc dp fun kd od sd H1 s1 hk ho hs md => ?_
    walk_at "rd"
    refine ⟨ls, rfl, ⟨_, SqL.of (s1 _ _ hl)⟩, for_list (K := K) (a := ls) (xs := qs.map V.ref) (fun i σ H' => ∃ z nss, ∃ y4 y5 y6 : Option V, σ = [some (.ref tx), some (.ref fx), some (.ref ls), some (.ref x), y4, y5, y6] ∧ Same H H' ∧ Mod U C D H' t r ⟨x, kd, od, sd, z, nss⟩ (fOf (ss.take i)) (gOf (ss.take i)) i i) ⟨_, _, _, _, _, rfl, s1, md⟩ ?_ ?_ ?_⟩
    · rintro i σ H' _ ⟨_, _, _, _, _, _, s2, _⟩
      exact SqL.of (s2 _ _ hl)
    · rintro i y σ H2 hy ⟨z, nss, y4, y5, y6, rfl, s2, md2⟩
      rw [List.getElem?_map] at hy
      obtain ⟨q0, hq0, rfl⟩ := Option.map_eq_some_iff.mp hy
      obtain ⟨st, es, sat⟩ := pair_at sa hq0
      obtain ⟨b, hq, hb, hold, hnew⟩ := sat.tup fun _ _ => s2 _ _
      have sok := sts.at_ es
      have hi : i < ss.length := (List.getElem?_eq_some_iff.mp es).1
      walk_at "rd"
      refine ⟨q0, b, st.old, st.new, rfl, hq, fun T H3 s3 h3 => ?_⟩
      walk_at "rd"
      have md3 := md2.up s3
      refine md3.callStep sok (fun p e => s3 _ _ (hnew p e).1) (s3 _ _ hb) (by omega) fun pp t' b' H4 z' nss' o4 md4 hp ht' hb' => ?_
      have s04 : Same H H4 := off_same (fun b o z => s3 _ _ (s2 _ _ z)) o4 hx hk ho hs
      walk_at "rd"
      refine ⟨size_of (Nat.le_of_ble_eq_true rfl), fun p2 hp2 => ?_⟩
      obtain ⟨H5, e5, s5, h5⟩ := new_heap (o := .tup [.str "told", .ref q0]) hp2
      rw [e5]
      have s05 : Same H H5 := fun b o z => s5 _ _ (s04 _ _ z)
      obtain ⟨b2, hq5, hb5, hold5, hnew5⟩ := sat.tup (H' := H5) fun _ _ => s05 _ _
      have rp : ∀ o : Option Row, (∀ p, o = some p → H5 p.1 = some (.tup p.2) ∧ ∀ v, v ∈ p.2 → Plain v) → RowP H5 (vOf o) := fun o h => by
        cases e : o with
        | none => exact .inl rfl
        | some p => exact .inr ⟨p.1, p.2, rfl, (h p e).1, (h p e).2⟩
      refine ne_told (s5 _ _ hp) (s5 _ _ ht') (s5 _ _ hb') h5 hq5 hb5 (rp _ hold5) (rp _ hnew5) ⟨_, rfl, iteF ?_⟩
      refine ⟨z', nss', _, _, _, rfl, s05, ?_⟩
      rw [take_snoc es, fOf_snoc, gOf_snoc, List.length_take, Nat.min_eq_left (Nat.le_of_lt hi)]
      exact md4.up s5
    · rintro σ H2 ⟨z, nss, y4, y5, y6, rfl, s2, md2⟩
      rw [List.length_map, Paired.length sa, List.take_length] at md2
      walk_at "rd"
      exact q _ H2 s2 md2 hx hk ho hs
/-- empty tuples -/
theorem eq_empty {H : Hp} {a b : Addr} {Q : VK} (ha : H a = some (.tup [])) (hb : H b = some (.tup [])) (q : Q (.bl true) H) : rEqD K (.ref a) (.ref b) H Q := by
  refine ⟨.tuple [], .tuple [], .tup (SqT.of ha) .nil, .tup (SqT.of hb) .nil, by decide +kernel, by decide +kernel, ?_⟩
  rw [show PyData.eqv (.tuple []) (.tuple []) = true from by simp [PyData.eqv, PyData.eqvAll]]
  exact q
abbrev s_taken_back : Stmt := top 51
theorem sc_taken_back : FnScope ["_law_truth", "_law_steps", "_law_firm", "_law_step", "_law_mine", "_law_old", "_law_new", "_law_heard"] ["_law_truth", "_law_steps", "_law_firm"] (defScope s_taken_back) := ⟨rfl, rfl, rfl, by decide +kernel, rfl, by decide +kernel, by decide +kernel⟩
def sp_back (U C D : Addr) : Sp := fun vs H Q _ => ∃ ls fv, ∃ t : Tb, ∃ r d g ss m qs, vs = [.ref d.x, .ref ls, fv] ∧ Mod U C D H t r d (fOf ss) g ss.length m ∧ Steps t r ss ∧ t.r = true ∧ H ls = some (.lst (qs.map V.ref)) ∧ StsAt H qs ss ∧ ss.length ≤ 100 ∧ m ≤ 100 ∧
  ∀ H', OffT d.x d.k d.o d.s H H' → Q (.bl true) H'
theorem ok_back {f fW fH : Addr} {fd fdW fdH fdR fdS : FuncData} (F : Fun K "_law_taken_back" "_law_taken_back" s_taken_back f fd) (TU : ClsU K mg U fT) (UN : ClsUN K U mI mU mD mC' mW mO mS fL fC)
    (F_word : Fun K "_law_word" "_law_word" s_word fW fdW) (B_word : Binds K fdW ["_law_step"] []) (g_word : mg "_law_word" = some (.ref fW)) (G_word : FnOk P w K mg base CX0 1 fW fdW ["_law_step"] sp_word)
    (F_call : Fun K "_law_call" "_law_call" s_call fH fdH) (B_call : Binds K fdH ["_law_truth", "_law_word_here", "_law_thing"] []) (g_call : mg "_law_call" = some (.ref fH)) (G_call : FnOk P w K mg base CX0 27 fH fdH ["_law_truth", "_law_word_here", "_law_thing"] (sp_call U C D))
    (UPr : PropOf K U "rows" pR gR) (UPs : PropOf K U "stamp" pS gS) (G_rows : FnOk P w K mg base CX0 2 gR fdR ["self"] (sp_urows U C D)) (B_rows : Binds K fdR ["self"] []) (G_stamp : FnOk P w K mg base CX0 1 gS fdS ["self"] (sp_ustamp U C D)) (B_stamp : Binds K fdS ["self"] [])
    (RU_len : FnR P w K mg base CX0 1 fL (fun vs H Q E => sp_ulen U C D (vs ++ []) H Q E)) (z_len : mg "len" = none) :
    FnOk P w K mg base CX0 28 f fd ["_law_truth", "_law_steps", "_law_firm"] (sp_back U C D) := by
  refine F.ok sc_taken_back (fun vs H Q E h => ?_) (fun cdv A outer s H vs Q E hr h => ?_)
  · obtain ⟨ls, fv, t, r, d, g, ss, m, qs, rfl, _⟩ := h
    rfl
  · obtain ⟨ls, fv, t, r, d, g, ss, m, qs, rfl, md, sts, trr, hl, sa, sz, mz, q⟩ := h
    refine ⟨_, (pss_cons (ps_for PassesOwn.never rfl (pi_list (pe_revL (pv 1))) (pg_name (i := 3) sc_taken_back.nd rfl (Or.inl rfl))
 (pss_cons (ps_asg (pv 3) (pg_tup (by rfl) (pgs_cons (pg_name (i := 4) sc_taken_back.nd rfl (Or.inl rfl)) (pgs_cons (pg_name (i := 5) sc_taken_back.nd rfl (Or.inl rfl)) (pgs_cons (pg_name (i := 6) sc_taken_back.nd rfl (Or.inl rfl)) pgs_nil)))))
 (pss_cons (ps_set (i := 7) sc_taken_back.nd rfl (Or.inl rfl) (pe_call G_call (hr.mono (by decide)) rfl g_call F_call.kp B_call .nil pass0 (pa_cons (pv 0) (pa_cons (pe_ix ix_tup (pe_call G_word (hr.mono (by decide)) rfl g_word F_word.kp B_word .nil pass0 (pa_cons (pe_tup (pa_cons (pv 4) (pa_cons (pv 6) (pa_cons (pv 5) pa_nil)))) pa_nil)) pe_int (fun _ _ => rfl)) (pa_cons (pe_ix ix_tup (pe_call G_word (hr.mono (by decide)) rfl g_word F_word.kp B_word .nil pass0 (pa_cons (pe_tup (pa_cons (pv 4) (pa_cons (pv 6) (pa_cons (pv 5) pa_nil)))) pa_nil)) pe_int (fun _ _ => rfl)) pa_nil)))))
 (pss_one (ps_if (pt_cmpR (op_neD hr.units) (pv 7) (pe_tup (pa_cons pe_str (pa_cons (pe_tup (pa_cons (pv 4) (pa_cons (pv 6) (pa_cons (pv 5) pa_nil)))) pa_nil))) (nomark _))
 (pss_one (ps_ret pe_bl))
 pss_nil)))))
 (pss_one (ps_ret (pe_and (pe_cmpR (op_eqD hr.units) (pe_prop (pv 0) TU.cl UPr G_rows (hr.mono (by decide)) B_rows .nil pass0 rfl) (pe_tup pa_nil) (nomark _)) (pe_and (pe_cmpR op_eq (pe_prop (pv 0) TU.cl UPs G_stamp (hr.mono (by decide)) B_stamp .nil pass0 rfl) (pe_op op_mul pe_int (pe_callB call_len_seq (by rfl) z_len PySem.boot_len (pa_cons (pv 1) pa_nil))) (nomark _)) (pe_one (pe_cmpR op_eq (pe_callB (call_lenO RU_len (hr.mono (by decide)) UN.leF UN.leI) (by rfl) z_len PySem.boot_len (pa_cons (pv 0) pa_nil)) pe_int (nomark _)))))))), ?_⟩
    walk_at "rd"
    unfold tRevL
    walk_at "rd"
    refine ⟨ls, _, rfl, SqL.of hl, fun lr hlr => ?_⟩
    obtain ⟨H1, e1, s1, h1⟩ := new_heap (o := .lst (qs.map V.ref).reverse) hlr
    rw [e1]
    rw [← List.map_reverse] at h1
    have md1 := md.up s1
    have sp := md1.tr.spot
    have qlen : qs.length = ss.length := Paired.length sa
    have sa1 : StsAt H1 qs ss := sa.tup fun _ _ => s1 _ _
    refine ⟨lr, rfl, ⟨_, SqL.of h1⟩, for_list (K := K) (a := lr) (xs := qs.reverse.map V.ref) (fun i σ H' => ∃ z nss g, ∃ y3 y4 y5 y6 y7 : Option V, σ = [some (.ref d.x), some (.ref ls), some fv, y3, y4, y5, y6, y7] ∧ OffT d.x d.k d.o d.s H1 H' ∧ Mod U C D H' t r ⟨d.x, d.k, d.o, d.s, z, nss⟩ (fOf (ss.take (ss.length - i))) g (ss.length + i) (m + i)) ⟨d.z, d.nss, g, _, _, _, _, _, rfl, Same.offT (Same.refl _), by rw [Nat.sub_zero, List.take_length]; exact md1⟩ ?_ ?_ ?_⟩
    · rintro i σ H' _ ⟨_, _, _, _, _, _, _, _, _, o2, _⟩
      exact SqL.of (o2.lst sp h1)
    · rintro i y σ H2 hy ⟨z, nss, g2, y3, y4, y5, y6, y7, rfl, o2, md2⟩
      rw [List.getElem?_map] at hy
      obtain ⟨q0, hq0, rfl⟩ := Option.map_eq_some_iff.mp hy
      have hi : i < qs.length := by
        have := (List.getElem?_eq_some_iff.mp hq0).1
        rw [List.length_reverse] at this
        exact this
      rw [List.getElem?_reverse hi] at hq0
      obtain ⟨st, es, sat1⟩ := pair_at sa1 hq0
      have tup2 : ∀ a us, H1 a = some (.tup us) → H2 a = some (.tup us) := fun _ _ e => o2.tup sp e
      have sat2 := sat1.tup tup2
      obtain ⟨b, hq, hb, hold, hnew⟩ := id sat2
      have sok := sts.at_ es
      obtain ⟨un, kr⟩ := (sts.take (qs.length - 1 - i)).uniq
      have ej : ss.length - i = (qs.length - 1 - i) + 1 := by omega
      rw [ej, take_snoc es, fOf_snoc] at md2
      have bok := sok.back (g' := g2) un kr trr
      walk_at "rd"
      refine ⟨size_of (Nat.le_of_ble_eq_true rfl), fun t1 ht1 => ?_⟩
      obtain ⟨H3, e3, s3, h3⟩ := new_heap (o := .tup [.ref b, vOf st.new, vOf st.old]) ht1
      rw [e3]
      refine ⟨t1, b, st.new, st.old, rfl, h3, fun w1 H4 s4 h4 => ?_⟩
      walk_at "rd"
      refine ⟨size_of (Nat.le_of_ble_eq_true rfl), fun t2 ht2 => ?_⟩
      obtain ⟨H5, e5, s5, h5⟩ := new_heap (o := .tup [.ref b, vOf st.new, vOf st.old]) ht2
      rw [e5]
      refine ⟨t2, b, st.new, st.old, rfl, h5, fun w2 H6 s6 h6 => ?_⟩
      walk_at "rd"
      have s26 : Same H2 H6 := fun b o z => s6 _ _ (s5 _ _ (s4 _ _ (s3 _ _ z)))
      have md6 := md2.up s26
      refine md6.callStep (s := back st) bok (fun p e => s26 _ _ (hold p e).1) (s26 _ _ hb) (by omega) fun pp t' b' H7 z' nss' o7 md7 hp ht' hb' => ?_
      have tup7 : ∀ a us, H2 a = some (.tup us) → H7 a = some (.tup us) := fun _ _ e => o7.tup md6.tr.spot (s26 _ _ e)
      have hb7 := tup7 _ _ hb
      walk_at "rd"
      refine ⟨size_of (Nat.le_of_ble_eq_true rfl), fun t3 ht3 => ?_⟩
      obtain ⟨H8, e8, s8, h8⟩ := new_heap (o := .tup [.ref b, vOf st.new, vOf st.old]) ht3
      rw [e8]
      refine ⟨size_of (Nat.le_of_ble_eq_true rfl), fun t4 ht4 => ?_⟩
      obtain ⟨H9, e9, s9, h9⟩ := new_heap (o := .tup [.str "told", .ref t3]) ht4
      rw [e9]
      have s79 : Same H7 H9 := fun b o z => s9 _ _ (s8 _ _ z)
      obtain ⟨b2, _, _, hold9, hnew9⟩ := sat2.tup (H' := H9) fun a us e => s79 _ _ (tup7 a us e)
      have rp : ∀ o : Option Row, (∀ p, o = some p → H9 p.1 = some (.tup p.2) ∧ ∀ v, v ∈ p.2 → Plain v) → RowP H9 (vOf o) := fun o h => by
        cases e : o with
        | none => exact .inl rfl
        | some p => exact .inr ⟨p.1, p.2, rfl, (h p e).1, (h p e).2⟩
      refine ne_told (s79 _ _ hp) (s79 _ _ ht') (s79 _ _ hb') h9 (s9 _ _ h8) (s79 _ _ hb7) (rp _ hnew9) (rp _ hold9) ⟨_, rfl, iteF ?_⟩
      refine ⟨z', nss', stepG g2 (back st) (ss.length + i), _, _, _, _, _, rfl, (o2.trans (Same.offT s26)).trans (o7.trans (Same.offT s79)), ?_⟩
      rw [step_back sok] at md7
      have ek : ss.length - (i + 1) = qs.length - 1 - i := by omega
      rw [ek]
      exact md7.up s79
    · rintro σ H2 ⟨z, nss, g2, y3, y4, y5, y6, y7, rfl, o2, md2⟩
      rw [List.length_map, List.length_reverse, qlen, Nat.sub_self, List.take_zero] at md2
      have n0 : nss = [] := by
        cases e : nss with
        | nil => rfl
        | cons a l =>
          have ki := md2.ki
          have := (key_iff ki a).mp (by rw [show (TD.mk d.x d.k d.o d.s z nss).nss = nss from rfl, e]; exact List.mem_cons_self)
          rw [md2.fv] at this
          cases this
      have k0 : z.kvs.length = 0 := by
        have := congrArg List.length md2.ki
        rw [List.length_map, List.length_map, show (TD.mk d.x d.k d.o d.s z nss).nss = nss from rfl, n0] at this
        exact this
      obtain ⟨dx, tx, fx, hx, _⟩ := md2.tr.ex
      walk_at "rd"
      unfold tProp
      walk_at "rd"
      refine ⟨d.x, dx, _, rfl, hx, d.x, d.k, d.o, d.s, z, nss, rfl, md2.tr, md2.ki, by rw [n0]; exact fun _ h => absurd h List.not_mem_nil, by rw [n0]; decide, fun p1 H3 s3 h3 => ?_⟩
      rw [n0, show rowsOf z.kvs [] = [] from by unfold rowsOf; rw [List.Perm.eq_nil (sortN_perm [])]; rfl] at h3
      walk_at "rd"
      refine ⟨size_of (Nat.le_of_ble_eq_true rfl), fun p2 hp2 => ?_⟩
      obtain ⟨H4, e4, s4, h4⟩ := new_heap (o := .tup []) hp2
      rw [e4]
      refine eq_empty (s4 _ _ h3) h4 ?_
      have s24 : Same H2 H4 := fun b o z => s4 _ _ (s3 _ _ z)
      have md4 := md2.up s24
      have hl4 : H4 ls = some (.lst (qs.map V.ref)) := s24 _ _ (o2.lst sp (s1 _ _ hl))
      refine ⟨true, rfl, iteT ?_⟩
      walk_at "rd"
      refine ⟨d.x, dx, _, rfl, s24 _ _ hx, d.x, d.k, d.o, d.s, z, rfl, md4.tr, ?_⟩
      walk_at "rd"
      have zn : z.n = ss.length + ss.length := md2.zn
      rw [decide_eq_true (show V.int (z.n : Int) = V.int (2 * ((qs.map V.ref).length : Int)) by
        rw [List.length_map, qlen]
        have : (z.n : Int) = 2 * (ss.length : Int) := by omega
        rw [this])]
      refine iteT ?_
      walk_at "rd"
      refine ⟨d.x, dx, _, rfl, s24 _ _ hx, d.x, d.k, d.o, d.s, z, rfl, md4.tr, z.kvs.length, rfl, by omega, ?_⟩
      walk_at "rd"
      rw [decide_eq_true (show V.int (z.kvs.length : Int) = V.int 0 by rw [k0]; rfl)]
      have oo : OffT d.x d.k d.o d.s H H4 := ((Same.offT s1).trans o2).trans (Same.offT s24)
      exact q H4 oo
end
end Spk

set_option Elab.async false
set_option linter.all false
set_option maxRecDepth 100000
set_option maxHeartbeats 4000000
namespace Spk
open PySem L2
local macro_rules | `(tactic| walk_at "rd") => `(tactic| repeat (first
  | with_reducible refine i_seq ?_ | with_reducible refine i_asg ?_ | with_reducible refine i_ret ?_ | with_reducible refine i_ifS ?_ | with_reducible refine i_if ?_
  | with_reducible refine i_for ?_ | with_reducible refine i_iL ?_ | with_reducible refine i_iT ?_ | with_reducible refine i_ckw ?_ | with_reducible refine i_cm ?_ | with_reducible refine And.intro (rfl : V.ref _ = V.ref _) ?_ | with_reducible refine i_rng1 ?_ | with_reducible refine i_bm ?_ | with_reducible refine i_bm0 ?_
  | with_reducible refine i_drop ?_ | with_reducible refine i_next ?_
  | with_reducible refine i_var rfl ?_ | with_reducible refine i_c ?_ | with_reducible refine i_op ?_ | with_reducible refine i_un ?_ | with_reducible refine i_name ?_
  | with_reducible refine i_rI0 ?_ | with_reducible refine i_rU ?_ | with_reducible refine i_rEq rfl ?_ | with_reducible refine i_rNe rfl ?_
  | with_reducible refine i_test ?_ | with_reducible refine i_tB ?_ | with_reducible refine i_and ?_ | with_reducible refine i_or ?_ | with_reducible refine i_not ?_
  | with_reducible refine i_andV ?_ | with_reducible refine i_orV ?_ | with_reducible refine i_notV ?_
  | with_reducible refine i_cons ?_ | with_reducible refine i_nil ?_ | with_reducible refine i_cb ?_ | with_reducible refine i_call ?_ | with_reducible refine i_bl ?_
  | with_reducible refine i_tup ?_ | with_reducible refine i_lst ?_ | with_reducible refine i_par ?_ | with_reducible refine i_gcons ?_ | with_reducible refine i_gnil ?_
  | with_reducible refine And.intro (rfl : V.non = V.non) ?_ | with_reducible refine i_ixT (by assumption) rfl ?_ | with_reducible refine i_ixL (by assumption) rfl ?_ | with_reducible refine i_gtup (by assumption) rfl ?_
  | with_reducible refine i_gsub ?_
  | with_reducible refine Or.inl (Exists.intro _ (And.intro (rfl : [V.int _] = [V.int _]) ?_)) | with_reducible refine Exists.intro _ (And.intro (rfl : [V.int _] = [V.int _]) ?_)
  | with_reducible refine Or.inr (Exists.intro _ (And.intro (rfl : [V.bl _] = [V.bl _]) ?_))
  | with_reducible refine Exists.intro _ (Exists.intro _ (And.intro (rfl : [V.int _, V.int _] = [V.int _, V.int _]) ?_))
  | with_reducible refine Exists.intro _ (Exists.intro _ (And.intro (rfl : [V.ref _] = [V.ref _]) (And.intro (Or.inl (SqL.of (by assumption))) ?_)))
  | with_reducible refine i_rI (show (0 : Int) < _ by assumption) ?_ | with_reducible refine i_rI (show (0 : Int) < _ by decide) ?_
  | with_reducible refine i_rI (pow_ok (Nat.le_of_ble_eq_true rfl) (Nat.le_of_ble_eq_true rfl)) ?_
  | with_reducible refine i_rI (cmulL rfl) ?_))
/-! ### what stands over a turn -/
theorem RegAt.keep {D : Addr} {H H' : Hp} {g f : Addr} {ks : List Str} {lo hi hole : Option Int} {r : Fi.Tr} (e : Keep H H') (hp : penny (.lst [.ref f, ov lo, ov hi, ov hole]) = false) (h : RegAt D H g ks lo hi hole f r) : RegAt D H' g ks lo hi hole f r := by
  obtain ⟨a, b, c⟩ := h
  exact ⟨e _ _ hp a, b.keep e, c⟩
theorem RegAt.up {D : Addr} {H H' : Hp} {g f : Addr} {ks : List Str} {lo hi hole : Option Int} {r : Fi.Tr} (e : Same H H') (h : RegAt D H g ks lo hi hole f r) : RegAt D H' g ks lo hi hole f r := by
  obtain ⟨a, b, c⟩ := h
  exact ⟨e _ _ a, b.up e, c⟩
theorem penny_reg {f : Addr} {a b c : Option Int} : penny (.lst [.ref f, ov a, ov b, ov c]) = false := by cases a <;> cases b <;> cases c <;> rfl
theorem among_mem {c : Str} {cs ks : List Str} : c ∈ among cs ks ↔ c ∈ cs ∧ c ∈ ks := by
  unfold among
  rw [List.mem_filter, decide_eq_true_eq]
theorem rowOk_congr {ks ks' : List Str} : ∀ {us : List V} {cs : List Str}, RowOk ks cs us → (∀ c, c ∈ cs → (c ∈ ks ↔ c ∈ ks')) → RowOk ks' cs us
  | _, _, .nil, _ => .nil
  | _, _, .cons r t, h => by
    refine .cons ?_ (rowOk_congr t fun c hc => h c (List.mem_cons_of_mem _ hc))
    have e := h _ List.mem_cons_self
    rw [← decide_eq_decide.mpr e]
    exact r
theorem rowOk_am {ks cs : List Str} {us : List V} (h : RowOk ks cs us) : RowOk (among cs ks) cs us := rowOk_congr h fun c hc => by rw [among_mem]; exact ⟨fun z => ⟨hc, z⟩, fun z => z.2⟩
theorem rowOk_ma {ks cs : List Str} {us : List V} (h : RowOk (among cs ks) cs us) : RowOk ks cs us := rowOk_congr h fun c hc => by rw [among_mem]; exact ⟨fun z => z.2, fun z => ⟨hc, z⟩⟩
theorem among_nil (cs : List Str) : among cs [] = [] := by
  unfold among
  rw [List.filter_eq_nil_iff]
  intro a _
  simp
theorem among_perm {cs ks : List Str} (cn : cs.Nodup) (kn : ks.Nodup) (sub : ∀ c, c ∈ ks → c ∈ cs) : (among cs ks).Perm ks := by
  refine (List.perm_ext_iff_of_nodup (List.Pairwise.sublist List.filter_sublist cn) kn).mpr fun c => ?_
  rw [among_mem]
  exact ⟨fun z => z.2, fun z => ⟨sub c z, z⟩⟩
theorem key_ints : ∀ {ks cs : List Str} {us : List V}, RowOk ks cs us → ∃ ns : List Int, duesL ks cs us = ns.map V.int ∧ Tiny ns ∧ ns.length = (among cs ks).length
  | _, _, _, .nil => ⟨[], rfl, (fun n h => absurd h List.not_mem_nil), rfl⟩
  | ks, c :: cs, v :: us, .cons r t => by
    obtain ⟨ns, e, tn, nl⟩ := key_ints t
    by_cases hk : c ∈ ks
    · rcases r with ⟨m, rfl, hm⟩ | ⟨_, h⟩
      · refine ⟨m :: ns, ?_, fun n hn => ?_, ?_⟩
        · simp only [duesL, if_pos hk, e, List.map_cons]
        · rcases List.mem_cons.mp hn with rfl | hn
          · exact hm
          · exact tn n hn
        · unfold among at nl ⊢
          rw [List.filter_cons_of_pos (by simpa using hk), List.length_cons, List.length_cons, nl]
      · exact absurd (decide_eq_false_iff_not.mp h) (fun z => z hk)
    · refine ⟨ns, ?_, tn, ?_⟩
      · simp only [duesL, if_neg hk, e]
      · unfold among at nl ⊢
        rw [List.filter_cons_of_neg (by simpa using hk), nl]
theorem penny_refs (qs : List Addr) : penny (.lst (qs.map V.ref)) = false := by
  match qs with
  | [] => rfl
  | [_] => rfl
  | _ :: _ :: _ => rfl
/-- all but made rows, their dicts and two lists stands still -/
def Calm2 (ls lr : Addr) (H H' : Hp) : Prop := ∀ a v, H a = some v → (∀ l, v ≠ .dT l) → (∀ U dx tx fx kd od sd n, v ≠ .ins U dx (tflds tx fx kd od sd n)) → a ≠ ls → a ≠ lr → H' a = some v
theorem OffT.calm2 {x kd od sd ls lr : Addr} {H H' : Hp} (o : OffT x kd od sd H H') (sp : Spot H x kd od sd) : Calm2 ls lr H H' := fun _ _ h n1 n2 _ _ => o.get sp h n1 n2
theorem upd_calm1 {ls lr : Addr} {H : Hp} {v : HO} : Calm2 ls lr H (upd H ls v) := fun a w h _ _ n _ => by
  rw [upd_ne n]
  exact h
theorem upd_calm2 {ls lr : Addr} {H : Hp} {v : HO} : Calm2 ls lr H (upd H lr v) := fun a w h _ _ _ n => by
  rw [upd_ne n]
  exact h
/-- two lists -/
structure Two (H : Hp) (ls lr : Addr) : Prop where
  s : ∃ xs, H ls = some (.lst xs)
  r : ∃ xs, H lr = some (.lst xs)
section
variable {ls lr : Addr} {H H' : Hp}
theorem Calm2.get (o : Calm2 ls lr H H') (tw : Two H ls lr) {a : Addr} {v : HO} (h : H a = some v) (n1 : ∀ l, v ≠ .dT l) (n2 : ∀ U dx tx fx kd od sd n, v ≠ .ins U dx (tflds tx fx kd od sd n)) (n3 : ∀ l, v ≠ .lst l) : H' a = some v := by
  obtain ⟨⟨xs, h1⟩, ⟨ys, h2⟩⟩ := tw
  refine o a v h n1 n2 (fun e => ?_) (fun e => ?_)
  · rw [e, h1] at h
    exact n3 _ (Option.some.inj h).symm
  · rw [e, h2] at h
    exact n3 _ (Option.some.inj h).symm
theorem Calm2.tup (o : Calm2 ls lr H H') (tw : Two H ls lr) (a : Addr) (xs : List V) (h : H a = some (.tup xs)) : H' a = some (.tup xs) := o.get tw h (fun _ z => nomatch z) (fun _ _ _ _ _ _ _ _ z => nomatch z) fun _ z => nomatch z
theorem Calm2.lst (o : Calm2 ls lr H H') {a : Addr} {xs : List V} (h : H a = some (.lst xs)) (n1 : a ≠ ls) (n2 : a ≠ lr) : H' a = some (.lst xs) := o a _ h (fun _ z => nomatch z) (fun _ _ _ _ _ _ _ _ z => nomatch z) n1 n2
theorem Calm2.tab (o : Calm2 ls lr H H') (tw : Two H ls lr) {C a : Addr} {t : Tb} (h : Tab C H a t) : Tab C H' a t := by
  obtain ⟨dx, tc, tk, tf, tu, h1, ⟨ob, h2, r⟩, h3, h4, h5⟩ := h
  exact ⟨dx, tc, tk, tf, tu, o.get tw h1 (fun _ z => nomatch z) (fun _ _ _ _ _ _ _ _ => ins_ne (by decide)) (fun _ z => nomatch z), ⟨ob, o.get tw h2 (fun _ z => nomatch z) (fun _ _ _ _ _ _ _ _ z => nomatch z) (fun _ z => nomatch z), r⟩, o.tup tw _ _ h3, o.tup tw _ _ h4, o.tup tw _ _ h5⟩
theorem Calm2.fil (o : Calm2 ls lr H H') (tw : Two H ls lr) {D a : Addr} {t : Fi.Tr} (h : Fi.Fil D H a t) : Fi.Fil D H' a t := by
  obtain ⟨dx, v, q, cs, h1, h2, h3, h4⟩ := h
  refine ⟨dx, v, q, cs, o.get tw h1 (fun _ z => nomatch z) (fun _ _ _ _ _ _ _ _ => ins_ne (by decide)) (fun _ z => nomatch z), h2.via (fun a xs z => o.tup tw _ _ z) (fun a ps z => ?_), o.tup tw _ _ h3, h4⟩
  obtain ⟨vs, hv, tv⟩ := z
  exact ⟨vs, o.tup tw _ _ hv, Paired.mapP tv fun _ _ ⟨a, e, ha⟩ => ⟨a, e, o.tup tw _ _ ha⟩⟩
end
theorem Wish.tup {H H' : Hp} {t : Tb} {w : Str} {y : V} {ns : List Int} (e : ∀ a us, H a = some (.tup us) → H' a = some (.tup us)) (h : Wish H t w y ns) : Wish H' t w y ns := by
  rcases h with ⟨a, b, c, k⟩ | ⟨a, r, us, b, c, d⟩
  · exact .inl ⟨a, b, c, ⟨e _ _ k.at_, k.z, k.tiny⟩⟩
  · exact .inr ⟨a, r, us, b, e _ _ c, d⟩
/-- a change that was refused -/
def RefAt (H : Hp) (t : Tb) (r : Fi.Tr) (q : Addr) : Prop := ∃ w y hb rs ns, H q = some (.tup [.str w, y, .ref hb]) ∧ H hb = some (.tup [.str "refused", .str rs]) ∧ Wish H t w y ns ∧ PyData.strOk rs = true ∧ (rs = "region" → ¬ r.sem (rhoK t.ks ns) = some true)
theorem RefAt.tup {H H' : Hp} {t : Tb} {r : Fi.Tr} {q : Addr} (e : ∀ a us, H a = some (.tup us) → H' a = some (.tup us)) (h : RefAt H t r q) : RefAt H' t r q := by
  obtain ⟨w, y, hb, rs, ns, a, b, c, d⟩ := h
  exact ⟨w, y, hb, rs, ns, e _ _ a, e _ _ b, c.tup e, d⟩
theorem due_region {U C D : Addr} {H : Hp} {t : Tb} {r : Fi.Tr} {d : TD} {f : Fn} {g : Gn} {n m : Nat} (h : Mod U C D H t r d f g n m) {w : Str} {y : V} {ns : List Int} : dueW H d.z w ns y = some "region" ↔ ¬ r.sem (rhoK t.ks ns) = some true := by
  unfold dueW
  rw [h.inR]
  by_cases hr : r.sem (rhoK t.ks ns) = some true
  · rw [decide_eq_true hr, if_neg (by decide)]
    refine ⟨fun e => ?_, fun e => absurd hr e⟩
    exfalso
    have u : ∀ {a : Prop} [Decidable a], ¬ (if a then some ("unique" : Str) else none) = some "region" := fun {a} _ e => by
      split at e
      · exact absurd (Option.some.inj e) (by decide)
      · cases e
    split at e
    · unfold dueI at e
      split at e
      · exact absurd (Option.some.inj e) (by decide)
      · split at e
        · exact absurd (Option.some.inj e) (by decide)
        · exact u e
    · split at e
      · exact absurd (Option.some.inj e) (by decide)
      · split at e
        · cases e
        · unfold dueU at e
          split at e
          · exact absurd (Option.some.inj e) (by decide)
          · exact u e
  · rw [decide_eq_false hr, if_pos rfl]
    exact ⟨fun _ => hr, fun _ => rfl⟩
/-- two that hold the same rows -/
theorem Mod.same {U C D U' C' D' : Addr} {H H' : Hp} {t t' : Tb} {r r' : Fi.Tr} {d d' : TD} {f : Fn} {g g' : Gn} {n n' m m' : Nat} (h : Mod U C D H t r d f g n m) (h' : Mod U' C' D' H' t' r' d' f g' n' m') : rowsOf d.z.kvs d.nss = rowsOf d'.z.kvs d'.nss := by
  have p : d.nss.Perm d'.nss := (List.perm_ext_iff_of_nodup h.nd h'.nd).mpr fun ns => by rw [key_iff h.ki, key_iff h'.ki, h.fv, h'.fv]
  have e : sortN d.nss = sortN d'.nss := List.Perm.eq_of_pairwise (fun a b _ _ h1 h2 => List.le_antisymm h1 h2) (sortN_pair _) (sortN_pair _) ((sortN_perm _).trans (p.trans (sortN_perm _).symm))
  unfold rowsOf
  rw [e]
  refine List.map_congr_left fun m _ => ?_
  rw [h.fv, h'.fv]
structure Scn (U C D : Addr) (H : Hp) (p L G tk tx g ls lr : Addr) (cs ks : List Str) (t : Tb) (r : Fi.Tr) (lo hi hole : Option Int) (fr : Addr) (d : TD) (ss : List Stp) (qs rs : List Addr) (n m : Nat) : Prop where
  pen : Pen H p L n
  hc : H G = some (.lst (cs.map V.str))
  hk : H tk = some (.tup (ks.map V.str))
  tab : Tab C H tx t
  ra : RegAt D H g t.ks lo hi hole fr r
  md : Mod U C D H t r d (fOf ss) (gOf ss) ss.length m
  sts : Steps t r ss
  hl : H ls = some (.lst (qs.map V.ref))
  sa : StsAt H qs ss
  hr : H lr = some (.lst (rs.map V.ref))
  rf : ∀ q, q ∈ rs → RefAt H t r q
  sz : ss.length ≤ m
  rz : rs.length ≤ m
/-- places that are told apart -/
structure Aloof (p L G g ls lr : Addr) : Prop where
  p1 : p ≠ ls
  p2 : p ≠ lr
  L1 : L ≠ ls
  L2 : L ≠ lr
  G1 : G ≠ ls
  G2 : G ≠ lr
  g1 : g ≠ ls
  g2 : g ≠ lr
  sr : ls ≠ lr
section
variable {U C D p L G tk tx g ls lr : Addr} {cs ks : List Str} {t : Tb} {r : Fi.Tr} {lo hi hole : Option Int} {fr : Addr} {d d' : TD} {ss ss' : List Stp} {qs qs' rs rs' : List Addr} {n n' m m' : Nat} {H H' : Hp}
theorem Scn.up (e : Same H H') (h : Scn U C D H p L G tk tx g ls lr cs ks t r lo hi hole fr d ss qs rs n m) : Scn U C D H' p L G tk tx g ls lr cs ks t r lo hi hole fr d ss qs rs n m :=
  ⟨h.pen.up e, e _ _ h.hc, e _ _ h.hk, h.tab.up e, h.ra.up e, h.md.up e, h.sts, e _ _ h.hl, h.sa.tup fun _ _ => e _ _, e _ _ h.hr, fun q hq => (h.rf q hq).tup fun _ _ => e _ _, h.sz, h.rz⟩
theorem Scn.keep (e : Keep H H') (p' : Pen H' p L n') (h : Scn U C D H p L G tk tx g ls lr cs ks t r lo hi hole fr d ss qs rs n m) : Scn U C D H' p L G tk tx g ls lr cs ks t r lo hi hole fr d ss qs rs n' m :=
  ⟨p', e _ _ (penny_strs _) h.hc, e _ _ rfl h.hk, h.tab.keep e, h.ra.keep e penny_reg, h.md.keep e, h.sts, e _ _ (penny_refs _) h.hl, h.sa.tup fun _ _ => e _ _ rfl, e _ _ (penny_refs _) h.hr, fun q hq => (h.rf q hq).tup fun _ _ => e _ _ rfl, h.sz, h.rz⟩
theorem Scn.mono (e : n ≤ n') (e2 : m ≤ m') (h : Scn U C D H p L G tk tx g ls lr cs ks t r lo hi hole fr d ss qs rs n m) : Scn U C D H p L G tk tx g ls lr cs ks t r lo hi hole fr d ss qs rs n' m' :=
  { h with pen := h.pen.mono e, md := h.md.mono e2, sz := Nat.le_trans h.sz e2, rz := Nat.le_trans h.rz e2 }
theorem Scn.two (h : Scn U C D H p L G tk tx g ls lr cs ks t r lo hi hole fr d ss qs rs n m) : Two H ls lr := ⟨⟨_, h.hl⟩, ⟨_, h.hr⟩⟩
/-- a change that leaves the law's things as they are -/
theorem Scn.calm (ap : Aloof p L G g ls lr) (o : Calm2 ls lr H H') (h : Scn U C D H p L G tk tx g ls lr cs ks t r lo hi hole fr d ss qs rs n m) (md : Mod U C D H' t r d' (fOf ss') (gOf ss') ss'.length m') (sts : Steps t r ss') (hl : H' ls = some (.lst (qs'.map V.ref))) (sa : StsAt H' qs' ss')
    (hr : H' lr = some (.lst (rs'.map V.ref))) (rf : ∀ q, q ∈ rs' → RefAt H' t r q) (sz : ss'.length ≤ m') (rz : rs'.length ≤ m') : Scn U C D H' p L G tk tx g ls lr cs ks t r lo hi hole fr d' ss' qs' rs' n m' := by
  have tw := h.two
  obtain ⟨ms, a, l, h1, h2, rr⟩ := h.pen
  obtain ⟨g1, g2, g3⟩ := h.ra
  exact ⟨⟨ms, a, l, o.lst h1 ap.p1 ap.p2, o.lst h2 ap.L1 ap.L2, rr⟩, o.lst h.hc ap.G1 ap.G2, o.tup tw _ _ h.hk, o.tab tw h.tab, ⟨o.lst g1 ap.g1 ap.g2, o.fil tw g2, g3⟩, md, sts, hl, sa, hr, rf, sz, rz⟩
end
end Spk

set_option Elab.async false
set_option linter.all false
set_option maxRecDepth 100000
set_option maxHeartbeats 8000000
namespace Spk
open PySem L2
local macro_rules | `(tactic| walk_at "rd") => `(tactic| repeat (first
  | with_reducible refine i_seq ?_ | with_reducible refine i_asg ?_ | with_reducible refine i_ret ?_ | with_reducible refine i_ifS ?_ | with_reducible refine i_if ?_
  | with_reducible refine i_for ?_ | with_reducible refine i_iL ?_ | with_reducible refine i_iT ?_ | with_reducible refine i_ckw ?_ | with_reducible refine i_cm ?_ | with_reducible refine And.intro (rfl : V.ref _ = V.ref _) ?_ | with_reducible refine i_rng1 ?_ | with_reducible refine i_bm ?_ | with_reducible refine i_bm0 ?_
  | with_reducible refine i_drop ?_ | with_reducible refine i_next ?_
  | with_reducible refine i_var rfl ?_ | with_reducible refine i_c ?_ | with_reducible refine i_op ?_ | with_reducible refine i_un ?_ | with_reducible refine i_name ?_
  | with_reducible refine i_rI0 ?_ | with_reducible refine i_rU ?_ | with_reducible refine i_rEq rfl ?_ | with_reducible refine i_rNe rfl ?_
  | with_reducible refine i_test ?_ | with_reducible refine i_tB ?_ | with_reducible refine i_and ?_ | with_reducible refine i_or ?_ | with_reducible refine i_not ?_
  | with_reducible refine i_andV ?_ | with_reducible refine i_orV ?_ | with_reducible refine i_notV ?_
  | with_reducible refine i_cons ?_ | with_reducible refine i_nil ?_ | with_reducible refine i_cb ?_ | with_reducible refine i_call ?_ | with_reducible refine i_bl ?_
  | with_reducible refine i_tup ?_ | with_reducible refine i_lst ?_ | with_reducible refine i_par ?_ | with_reducible refine i_gcons ?_ | with_reducible refine i_gnil ?_
  | with_reducible refine And.intro (rfl : V.non = V.non) ?_ | with_reducible refine i_ixT (by assumption) rfl ?_ | with_reducible refine i_ixL (by assumption) rfl ?_ | with_reducible refine i_gtup (by assumption) rfl ?_
  | with_reducible refine i_gsub ?_
  | with_reducible refine Or.inl (Exists.intro _ (And.intro (rfl : [V.int _] = [V.int _]) ?_)) | with_reducible refine Exists.intro _ (And.intro (rfl : [V.int _] = [V.int _]) ?_)
  | with_reducible refine Or.inr (Exists.intro _ (And.intro (rfl : [V.bl _] = [V.bl _]) ?_))
  | with_reducible refine Exists.intro _ (Exists.intro _ (And.intro (rfl : [V.int _, V.int _] = [V.int _, V.int _]) ?_))
  | with_reducible refine Exists.intro _ (Exists.intro _ (And.intro (rfl : [V.ref _] = [V.ref _]) (And.intro (Or.inl (SqL.of (by assumption))) ?_)))
  | with_reducible refine i_rI (show (0 : Int) < _ by assumption) ?_ | with_reducible refine i_rI (show (0 : Int) < _ by decide) ?_
  | with_reducible refine i_rI (pow_ok (Nat.le_of_ble_eq_true rfl) (Nat.le_of_ble_eq_true rfl)) ?_
  | with_reducible refine i_rI (cmulL rfl) ?_))
/-! ### the law -/
theorem passF {X : Cx} : Passes (L2.CX X.prog X.w) X E0 := fun pins σ H s e s' _ h => by
  obtain ⟨_, _, _, _, _, _, _, _, _, _, _, _, z⟩ := h
  exact z.elim
theorem nms_of {K : PySem.W.Frag} {H : Hp} : ∀ {cs : List Str}, (∀ c, c ∈ cs → c.length ≤ 100 ∧ nameB c = true) → Paired (NmV K H) (cs.map V.str) (cs.map fun _ => true)
  | [], _ => .nil
  | c :: cs, h => .cons (.inl ⟨c, rfl, (h c List.mem_cons_self).1, (h c List.mem_cons_self).2.symm⟩) (nms_of fun d hd => h d (List.mem_cons_of_mem _ hd))
theorem ShOk.due {cs ks fs us : List Str} (h : ShOk cs ks fs us) : dueT (cs.map V.str) (cs.map fun _ => true) ks fs us = none := by
  have e0 : (cs.map V.str).isEmpty = false := by
    cases e : cs with
    | nil => exact absurd e h.c0
    | cons a b => rfl
  have nd : (cs.map V.str).Nodup := nodup_strs.mpr h.cn
  have al : ((cs.map fun _ => true).all id) = true := by simp
  have k1 : 1 ≤ ks.length := List.length_pos_iff.mpr h.k0
  have st : strsOf (cs.map V.str) = cs := by
    unfold strsOf
    rw [List.filterMap_map]
    exact List.filterMap_some
  have ch : ∀ {ws vs : List Str}, (∀ c, c ∈ ws → c ∈ vs) → ((ws.map fun c => decide (c ∈ vs)).all id) = true := fun {ws vs} hh => by
    rw [List.all_map, List.all_eq_true]
    intro c hc
    exact decide_eq_true (hh c hc)
  unfold dueT namesB chosenB
  rw [st, e0, al, decide_eq_true nd, List.length_map, decide_eq_true h.cz, ch h.ksub, decide_eq_true h.kn, decide_eq_true k1, decide_eq_true h.kz, ch fun c hc => others_mem.mpr (h.fsub c hc), decide_eq_true h.fn, ch fun c hc => others_mem.mpr (h.usub c hc), decide_eq_true h.un]
  simp
/-- the table of a shape -/
abbrev tabS (cs ks fs us : List Str) (b : Bool) : Tb := ⟨cs, among cs ks, among cs fs, among cs us, b⟩
theorem among_len (cs ks : List Str) : (among cs ks).length ≤ cs.length := List.length_filter_le _ _
theorem among_nd {cs ks : List Str} (h : cs.Nodup) : (among cs ks).Nodup := List.Pairwise.sublist List.filter_sublist h
theorem ShOk.tab {cs ks fs us : List Str} (h : ShOk cs ks fs us) (b : Bool) : TbOk (tabS cs ks fs us b) where
  cz := h.cz
  kz := by
    show (among cs ks).length ≤ 2
    rw [(among_perm h.cn h.kn h.ksub).length_eq]
    exact h.kz
  k0 := fun e => h.k0 (List.eq_nil_of_length_eq_zero (by
    have e' : among cs ks = [] := e
    rw [← (among_perm h.cn h.kn h.ksub).length_eq, e']
    rfl))
  sub := fun c hc => (among_mem.mp hc).1
  nd := h.cn
  kn := among_nd h.cn
  fz := Nat.le_trans (among_len _ _) h.cz
  fsub := fun c hc => (among_mem.mp hc).1
  uz := Nat.le_trans (among_len _ _) h.cz
  usub := fun c hc => (among_mem.mp hc).1
  un := among_nd h.cn
theorem wishR {H : Hp} {t : Tb} {w : Str} {b tt : Addr} {ns : List Int} {us : List V} (hw : w = "insert" ∨ w = "update" ∨ w = "delete") (hr : H tt = some (.tup us)) (hb : H b = some (.tup (ns.map V.int))) (ro : RowOk t.ks t.cs us) (pk : picked t.cs us t.ks = ns.map V.int) (tn : Tiny ns) (nl : ns.length = t.ks.length) :
    Wish H t w (if w = "delete" then .ref b else .ref tt) ns := by
  rcases hw with rfl | rfl | rfl
  · exact .inr ⟨.inl rfl, tt, us, rfl, hr, ro, pk, tn, nl⟩
  · exact .inr ⟨.inr rfl, tt, us, rfl, hr, ro, pk, tn, nl⟩
  · exact .inl ⟨rfl, b, rfl, hb, nl, tn⟩
theorem ne_pair {K : PySem.W.Frag} {H : Hp} {a b p q' : Addr} {vs : List V} {n : Int} {Q : VK} (ha : H a = some (.tup [.ref p, .int n])) (hb : H b = some (.tup [.ref q', .int n])) (hp : H p = some (.tup vs)) (hq : H q' = some (.tup vs)) (h : ∀ v, v ∈ vs → RowP H v) (q : Q (.bl false) H) : rNeD K (.ref a) (.ref b) H Q := by
  obtain ⟨ds, e, l, dp⟩ := rows_dp (K := K) h
  have ly : (PyData.tuple [.tuple ds, .int n]).canLay0 = true := by
    simp only [PyData.canLay0, PyData.canLayAll0, l, Bool.and_true]
  have sh := shaped_of ly (by
    simp only [PyData.depth, PyData.depthAll]
    omega)
  refine ⟨_, _, .tup (SqT.of ha) (.cons (.tup (SqT.of hp) e) (.cons (.int n) .nil)), .tup (SqT.of hb) (.cons (.tup (SqT.of hq) e) (.cons (.int n) .nil)), sh, sh, ?_⟩
  rw [SeqAt.eqv_refl _ ly]
  exact q
/-- all but lists stands still -/
def OffL (H H' : Hp) : Prop := ∀ a v, H a = some v → (∀ xs, v ≠ .lst xs) → H' a = some v
theorem offL_upd {H : Hp} {l : Addr} {xs ys : List V} (h : H l = some (.lst xs)) : OffL H (upd H l (.lst ys)) := fun a v e n => by
  rw [upd_ne (fun z => by rw [z, h] at e; exact n _ (Option.some.inj e).symm)]
  exact e
section
variable {U C D : Addr} {H H' : Hp} {t : Tb} {r : Fi.Tr} {d : TD} {f : Fn} {g : Gn} {n m : Nat}
theorem Tab.offL (e : OffL H H') {a : Addr} {t : Tb} (h : Tab C H a t) : Tab C H' a t := by
  obtain ⟨dx, tc, tk, tf, tu, h1, ⟨ob, h2, r⟩, h3, h4, h5⟩ := h
  exact ⟨dx, tc, tk, tf, tu, e _ _ h1 (fun _ z => nomatch z), ⟨ob, e _ _ h2 (fun _ z => nomatch z), r⟩, e _ _ h3 (fun _ z => nomatch z), e _ _ h4 (fun _ z => nomatch z), e _ _ h5 (fun _ z => nomatch z)⟩
theorem Fil.offL (e : OffL H H') {a : Addr} {t : Fi.Tr} (h : Fi.Fil D H a t) : Fi.Fil D H' a t := by
  obtain ⟨dx, v, q, cs, h1, h2, h3, h4⟩ := h
  have tu : ∀ {a : Addr} {xs : List V}, H a = some (.tup xs) → H' a = some (.tup xs) := fun z => e _ _ z (fun _ z => nomatch z)
  refine ⟨dx, v, q, cs, e _ _ h1 (fun _ z => nomatch z), h2.via (fun a xs z => tu z) (fun a ps z => ?_), tu h3, h4⟩
  obtain ⟨vs, hv, tv⟩ := z
  exact ⟨vs, tu hv, Paired.mapP tv fun _ _ ⟨a, e, ha⟩ => ⟨a, e, tu ha⟩⟩
theorem Mod.offL (e : OffL H H') (h : Mod U C D H t r d f g n m) : Mod U C D H' t r d f g n m := by
  refine h.tup ?_ fun a us z => e _ _ z (fun _ z => nomatch z)
  obtain ⟨⟨dx, tx, fx, h1, h2, h3⟩, h4, h5, h6, n1, n2, n3, o, r, d⟩ := h.tr
  exact ⟨⟨dx, tx, fx, e _ _ h1 (fun _ z => nomatch z), h2.offL e, Fil.offL e h3⟩, e _ _ h4 (fun _ z => nomatch z), e _ _ h5 (fun _ z => nomatch z), e _ _ h6 (fun _ z => nomatch z), n1, n2, n3, o, r, d⟩
theorem Mod.rowsP (h : Mod U C D H t r d f g n m) : ∀ v, v ∈ rowsOf d.z.kvs d.nss → RowP H v := fun v hv => by
  obtain ⟨ns, _, rfl⟩ := List.mem_map.mp hv
  rw [h.old]
  exact h.rowP ns
theorem Mod.nz (h : Mod U C D H t r d f g n m) (k0 : t.ks ≠ []) : ∀ ns, ns ∈ d.nss → ns ≠ [] := fun ns hns e => by
  have := (h.kz ns hns).1
  rw [e] at this
  exact k0 (List.eq_nil_of_length_eq_zero this.symm)
theorem Mod.nl (h : Mod U C D H t r d f g n m) : d.nss.length ≤ m := by
  have e := congrArg List.length h.ki
  rw [List.length_map, List.length_map] at e
  rw [← e]
  exact h.lk
end
theorem Calm2.trans {ls lr : Addr} {H H1 H2 : Hp} (a : Calm2 ls lr H H1) (b : Calm2 ls lr H1 H2) : Calm2 ls lr H H2 := fun c v h n1 n2 n3 n4 => b c v (a c v h n1 n2 n3 n4) n1 n2 n3 n4
theorem Same.calm2 {ls lr : Addr} {H H' : Hp} (e : Same H H') : Calm2 ls lr H H' := fun c v h _ _ _ _ => e c v h
theorem map_snoc (qs : List Addr) (q : Addr) : qs.map V.ref ++ [.ref q] = (qs ++ [q]).map V.ref := by rw [List.map_append]; rfl
structure TInv (a p L : Addr) (i : Nat) (σ : L2.St) (H : Hp) : Prop where
  ex : ∃ x2 x3 x4 x5 x6 x7 x8 x9 x10 x11 x12 x13 x14 x15 x16 x17 x18 x19 x20 x21 : Option V, σ = [some (.ref a), some (.ref p), x2, x3, x4, x5, x6, x7, x8, x9, x10, x11, x12, x13, x14, x15, x16, x17, x18, x19, x20, x21] ∧ Pen H p L (600 * i)
section
variable {P : Program} {w : World} {K : PySem.W.Frag} {mg : Str → Option Value} {base : Heap} {U C D CI fI fT p g pR gR pS gS : Addr} {mc : Value} {mI mU mD mC' mW mO mS fL fC : Addr}
abbrev s_law : Stmt := top 52
theorem sc_law : FnScope ["_law_script", "_law_pen_here", "_law_turn", "_law_columns", "_law_keyed", "_law_firm", "_law_lone", "_law_anew", "_law_table", "_law_region_here", "_law_truth", "_law_steps", "_law_refused", "_law_k", "_law_row_here", "_law_mine", "_law_word_here", "_law_heard", "_law_again", "_law_thing", "_law_kept", "_law_column"] ["_law_script"] (defScope s_law) := ⟨rfl, rfl, rfl, by decide +kernel, rfl, by decide +kernel, by decide +kernel⟩
def sp_law (K : PySem.W.Frag) : Sp := fun vs H Q _ => ∃ a, ∃ ns : List Int, vs = [.ref a] ∧ SqL K H a (ns.map V.int) ∧ ns.length ≤ 63 ∧ ∀ H', Q (.bl true) H'
theorem ok_law {f fP fD fS fG fA fY fU fH fV fB : Addr} {fd fdP fdD fdS fdG fdA fdY fdU fdH fdV fdO fdB fdr fds : FuncData} {mv : List Value} (F : Fun K "law" "law" s_law f fd) (T : ClsT K mg C fI mc p g) (TU : ClsU K mg U fT) (UN : ClsUN K U mI mU mD mC' mW mO mS fL fC)
    (F_pen : Fun K "_law_pen" "_law_pen" s_pen fP fdP) (B_pen : Binds K fdP ["_law_script"] []) (g_pen : mg "_law_pen" = some (.ref fP)) (G_pen : FnOk P w K mg base CX0 1 fP fdP ["_law_script"] (sp_pen K))
    (F_draw : Fun K "_law_draw" "_law_draw" s_draw fD fdD) (B_draw : Binds K fdD ["_law_pen_here", "_law_many"] []) (g_draw : mg "_law_draw" = some (.ref fD)) (G_draw : FnOk P w K mg base CX0 1 fD fdD ["_law_pen_here", "_law_many"] sp_draw)
    (F_shape : Fun K "_law_shape" "_law_shape" s_shape fS fdS) (B_shape : Binds K fdS ["_law_pen_here"] []) (g_shape : mg "_law_shape" = some (.ref fS)) (G_shape : FnOk P w K mg base CX0 3 fS fdS ["_law_pen_here"] sp_shape)
    (F_region : Fun K "_law_region" "_law_region" s_region fG fdG) (B_region : Binds K fdG ["_law_pen_here", "_law_keyed"] []) (g_region : mg "_law_region" = some (.ref fG)) (G_region : FnOk P w K mg base CX0 6 fG fdG ["_law_pen_here", "_law_keyed"] (sp_region D))
    (F_row : Fun K "_law_row" "_law_row" s_row fA fdA) (B_row : Binds K fdA ["_law_pen_here", "_law_columns", "_law_keyed", "_law_wide"] []) (g_row : mg "_law_row" = some (.ref fA)) (G_row : FnOk P w K mg base CX0 2 fA fdA ["_law_pen_here", "_law_columns", "_law_keyed", "_law_wide"] sp_row)
    (F_key : Fun K "_law_key" "_law_key" s_key fY fdY) (B_key : Binds K fdY ["_law_columns", "_law_keyed", "_law_row_here"] []) (g_key : mg "_law_key" = some (.ref fY)) (G_key : FnOk P w K mg base CX0 1 fY fdY ["_law_columns", "_law_keyed", "_law_row_here"] sp_key)
    (F_call : Fun K "_law_call" "_law_call" s_call fH fdH) (B_call : Binds K fdH ["_law_truth", "_law_word_here", "_law_thing"] []) (g_call : mg "_law_call" = some (.ref fH)) (G_call : FnOk P w K mg base CX0 27 fH fdH ["_law_truth", "_law_word_here", "_law_thing"] (sp_call U C D))
    (F_steps_right : Fun K "_law_steps_right" "_law_steps_right" s_steps_right fU fdU) (B_steps_right : Binds K fdU ["_law_truth", "_law_steps"] []) (g_steps_right : mg "_law_steps_right" = some (.ref fU)) (G_steps_right : FnOk P w K mg base CX0 7 fU fdU ["_law_truth", "_law_steps"] (sp_right U C D))
    (F_made_anew : Fun K "_law_made_anew" "_law_made_anew" s_made_anew fV fdV) (B_made_anew : Binds K fdV ["_law_table", "_law_region_here", "_law_steps"] []) (g_made_anew : mg "_law_made_anew" = some (.ref fV)) (G_made_anew : FnOk P w K mg base CX0 28 fV fdV ["_law_table", "_law_region_here", "_law_steps"] (sp_anew U C D))
    (F_taken_back : Fun K "_law_taken_back" "_law_taken_back" s_taken_back fB fdB) (B_taken_back : Binds K fdB ["_law_truth", "_law_steps", "_law_firm"] []) (g_taken_back : mg "_law_taken_back" = some (.ref fB)) (G_taken_back : FnOk P w K mg base CX0 28 fB fdB ["_law_truth", "_law_steps", "_law_firm"] (sp_back U C D))
    (G_of : FnOk P w K mg base (L2.CX P w) 5 g fdO ["cls", "columns", "key", "fixed", "unique", "reuse"] (sp_tof K C CI)) (hb_of4 : KBn K fdO ["cls", "columns", "key", "fixed", "unique", "reuse"] 2 ["key", "fixed", "unique", "reuse"] (fun us ws => us ++ ws ++ mv) (fun vs zs => vs ++ zs ++ []))
    (RUI : FnR P w K mg base CX0 1 fT (spU U)) (UPr : PropOf K U "rows" pR gR) (UPs : PropOf K U "stamp" pS gS) (G_rows : FnOk P w K mg base CX0 2 gR fdr ["self"] (sp_urows U C D)) (B_rows : Binds K fdr ["self"] []) (G_stamp : FnOk P w K mg base CX0 1 gS fds ["self"] (sp_ustamp U C D)) (B_stamp : Binds K fds ["self"] [])
    (z_range : mg "range" = none) : FnOk P w K mg base CX0 29 f fd ["_law_script"] (sp_law K) := by
  have g_C := T.g_C
  refine F.ok sc_law (fun vs H Q E h => ?_) (fun cdv A outer s H vs Q E hr h => ?_)
  · obtain ⟨a, ns, rfl, _⟩ := h
    rfl
  · obtain ⟨a, ns, rfl, ha, hn, q⟩ := h
    refine ⟨_, (pss_cons (ps_set (i := 1) sc_law.nd rfl (Or.inl rfl) (pe_call G_pen (hr.mono (by decide)) rfl g_pen F_pen.kp B_pen .nil pass0 (pa_cons (pv 0) pa_nil)))
 (pss_cons (ps_for PassesOwn.never rfl (pi_range1 (by rfl) z_range (pa_cons pe_int pa_nil)) (pg_name (i := 2) sc_law.nd rfl (Or.inl rfl))
 (pss_cons (ps_asg (pe_call G_shape (hr.mono (by decide)) rfl g_shape F_shape.kp B_shape .nil pass0 (pa_cons (pv 1) pa_nil)) (pg_tup (by rfl) (pgs_cons (pg_name (i := 3) sc_law.nd rfl (Or.inl rfl)) (pgs_cons (pg_name (i := 4) sc_law.nd rfl (Or.inr rfl)) (pgs_cons (pg_name (i := 5) sc_law.nd rfl (Or.inl rfl)) (pgs_cons (pg_name (i := 6) sc_law.nd rfl (Or.inl rfl)) (pgs_cons (pg_name (i := 7) sc_law.nd rfl (Or.inl rfl)) pgs_nil)))))))
 (pss_cons (ps_set (i := 8) sc_law.nd rfl (Or.inl rfl) (pe_cmethK (pe_glob rfl T.g_C (relR _)) T.rd T.of G_of hb_of4 (hr.mono (by decide)) passF (pa_cons (pv 3) pa_nil) (pk_cons (pv 4) (pk_cons (pv 5) (pk_cons (pv 6) (pk_cons (pv 7) pk_nil))))))
 (pss_cons (ps_set (i := 9) sc_law.nd rfl (Or.inl rfl) (pe_call G_region (hr.mono (by decide)) rfl g_region F_region.kp B_region .nil pass0 (pa_cons (pv 1) (pa_cons (pe_lc (own := [("_law_column", 21)]) (g := gName 21) rfl sc_law.nd (pi_list (pv 3)) (blkOk_by (own := [("_law_column", 21)]) (N := ["_law_script", "_law_pen_here", "_law_turn", "_law_columns", "_law_keyed", "_law_firm", "_law_lone", "_law_anew", "_law_table", "_law_region_here", "_law_truth", "_law_steps", "_law_refused", "_law_k", "_law_row_here", "_law_mine", "_law_word_here", "_law_heard", "_law_again", "_law_thing", "_law_kept", "_law_column"]) (sc := defScope s_law) (by decide +kernel)) (fun _ _ _ _ _ => pg_name (i := 21) sc_law.nd rfl (Or.inl rfl)) (fun _ _ _ _ _ => pts_one (pt_cmpR (op_inK (K := K) rfl) (pv 21) (pv 4) (by rfl))) (fun _ _ _ _ _ => (pv 21))) pa_nil))))
 (pss_cons (ps_set (i := 10) sc_law.nd rfl (Or.inl rfl) (StX.pe_makeR TU.M RUI (hr.mono (by decide)) rfl TU.g_U pass0 (pa_cons (pv 8) (pa_cons (pe_ix ix_list (pv 9) pe_int (fun _ _ => rfl)) pa_nil))))
 (pss_cons (ps_set (i := 11) sc_law.nd rfl (Or.inl rfl) (pe_lst pa_nil))
 (pss_cons (ps_set (i := 12) sc_law.nd rfl (Or.inl rfl) (pe_lst pa_nil))
 (pss_cons (ps_for PassesOwn.never rfl (pi_range1 (by rfl) z_range (pa_cons pe_int pa_nil)) (pg_name (i := 13) sc_law.nd rfl (Or.inl rfl))
 (pss_cons (ps_set (i := 14) sc_law.nd rfl (Or.inl rfl) (pe_call G_row (hr.mono (by decide)) rfl g_row F_row.kp B_row .nil pass0 (pa_cons (pv 1) (pa_cons (pv 3) (pa_cons (pv 4) (pa_cons pe_int pa_nil))))))
 (pss_cons (ps_set (i := 15) sc_law.nd rfl (Or.inl rfl) (pe_call G_key (hr.mono (by decide)) rfl g_key F_key.kp B_key .nil pass0 (pa_cons (pv 3) (pa_cons (pv 4) (pa_cons (pv 14) pa_nil)))))
 (pss_cons (ps_set (i := 16) sc_law.nd rfl (Or.inl rfl) (pe_ix ix_list (pe_lst (pa_cons pe_str (pa_cons pe_str (pa_cons pe_str (pa_cons pe_str pa_nil))))) (pe_call G_draw (hr.mono (by decide)) rfl g_draw F_draw.kp B_draw .nil pass0 (pa_cons (pv 1) (pa_cons pe_int pa_nil))) (fun _ _ => rfl)))
 (pss_cons (ps_set (i := 17) sc_law.nd rfl (Or.inl rfl) (pe_call G_call (hr.mono (by decide)) rfl g_call F_call.kp B_call .nil pass0 (pa_cons (pv 10) (pa_cons (pv 16) (pa_cons (pe_ifExp (pt_cmpR op_eq (pv 16) pe_str (nomark _)) (pv 15) (pv 14)) pa_nil)))))
 (C8.pss_cut (ps_if (pt_cmpR op_eq (pe_ix ix_tup (pv 17) pe_int (fun _ _ => rfl)) pe_str (nomark _))
 (pss_one (ps_expr (pe_bm PySem.F.plainAttrs_list PySem.F.slot_list_append PySem.F.type_list_append mt_append (pv 11) (pa_cons (pe_ix ix_tup (pv 17) pe_int (fun _ _ => rfl)) pa_nil))))
 (pss_one (ps_expr (pe_bm PySem.F.plainAttrs_list PySem.F.slot_list_append PySem.F.type_list_append mt_append (pv 12) (pa_cons (pe_tup (pa_cons (pv 16) (pa_cons (pe_ifExp (pt_cmpR op_eq (pv 16) pe_str (nomark _)) (pv 15) (pv 14)) (pa_cons (pv 17) pa_nil)))) pa_nil)))))
 (pss_one (ps_if (pt_not (pt_val (pe_call G_steps_right (hr.mono (by decide)) rfl g_steps_right F_steps_right.kp B_steps_right .nil pass0 (pa_cons (pv 10) (pa_cons (pv 11) pa_nil)))))
 (pss_one (ps_ret pe_bl))
 pss_nil))))))))
 (pss_cons (ps_set (i := 18) sc_law.nd rfl (Or.inl rfl) (pe_call G_made_anew (hr.mono (by decide)) rfl g_made_anew F_made_anew.kp B_made_anew .nil pass0 (pa_cons (pv 8) (pa_cons (pe_ix ix_list (pv 9) pe_int (fun _ _ => rfl)) (pa_cons (pv 11) pa_nil)))))
 (pss_cons (ps_if (PW.pt (pw_or (pt_cmpR op_isN (pv 18) pe_non (nomark _)) (pw_or (pt_cmpR (op_neD hr.units) (pe_prop (pv 18) TU.cl UPr G_rows (hr.mono (by decide)) B_rows .nil pass0 rfl) (pe_prop (pv 10) TU.cl UPr G_rows (hr.mono (by decide)) B_rows .nil pass0 rfl) (nomark _)) (pw_or1 (pt_cmpR op_ne (pe_prop (pv 18) TU.cl UPs G_stamp (hr.mono (by decide)) B_stamp .nil pass0 rfl) (pe_prop (pv 10) TU.cl UPs G_stamp (hr.mono (by decide)) B_stamp .nil pass0 rfl) (nomark _))))))
 (pss_one (ps_ret pe_bl))
 pss_nil)
 (pss_cons (ps_for PassesOwn.never rfl (pi_list (pv 12)) (pg_tup (by rfl) (pgs_cons (pg_name (i := 16) sc_law.nd rfl (Or.inl rfl)) (pgs_cons (pg_name (i := 19) sc_law.nd rfl (Or.inl rfl)) (pgs_cons (pg_name (i := 17) sc_law.nd rfl (Or.inl rfl)) pgs_nil))))
 (pss_cons (ps_set (i := 20) sc_law.nd rfl (Or.inl rfl) (pe_tup (pa_cons (pe_prop (pv 10) TU.cl UPr G_rows (hr.mono (by decide)) B_rows .nil pass0 rfl) (pa_cons (pe_prop (pv 10) TU.cl UPs G_stamp (hr.mono (by decide)) B_stamp .nil pass0 rfl) pa_nil))))
 (pss_one (ps_if (PW.pt (pw_or (PW.pt (pw_and (pt_cmpR op_eq (pe_ix ix_tup (pv 17) pe_int (fun _ _ => rfl)) pe_str (nomark _)) (pw_and1 (pt_cmpR (op_neD hr.units) (pe_call G_call (hr.mono (by decide)) rfl g_call F_call.kp B_call .nil pass0 (pa_cons (pv 10) (pa_cons (pv 16) (pa_cons (pv 19) pa_nil)))) (pv 17) (nomark _))))) (pw_or1 (pt_cmpR (op_neD hr.units) (pe_tup (pa_cons (pe_prop (pv 10) TU.cl UPr G_rows (hr.mono (by decide)) B_rows .nil pass0 rfl) (pa_cons (pe_prop (pv 10) TU.cl UPs G_stamp (hr.mono (by decide)) B_stamp .nil pass0 rfl) pa_nil))) (pv 20) (nomark _)))))
 (pss_one (ps_ret pe_bl))
 pss_nil))))
 (pss_one (ps_if (PW.pt (pw_and (pt_val (pv 7)) (pw_and1 (pt_not (pt_val (pe_call G_taken_back (hr.mono (by decide)) rfl g_taken_back F_taken_back.kp B_taken_back .nil pass0 (pa_cons (pv 18) (pa_cons (pv 11) (pa_cons (pv 5) pa_nil)))))))))
 (pss_one (ps_ret pe_bl))
 pss_nil)))))))))))))
 (pss_one (ps_ret pe_bl)))), ?_⟩
    walk_at "rd"
    refine ⟨a, ns, rfl, ha, hn, fun p L H1 s1 hp => ?_⟩
    walk_at "rd"
    refine ⟨by decide, by decide, for_range (lo := 0) (n := 2) (TInv a p L) ⟨_, _, _, _, _, _, _, _, _, _, _, _, _, _, _, _, _, _, _, _, rfl, hp.mono (by omega)⟩ ?_ ?_⟩
    · rintro i σ H2 hi ⟨x2, x3, x4, x5, x6, x7, x8, x9, x10, x11, x12, x13, x14, x15, x16, x17, x18, x19, x20, x21, rfl, p2⟩
      walk_at "rd"
      refine ⟨p, L, _, rfl, p2, by omega, fun T0 G tk tf tu H3 cs ks fs us b p3 hT hG hk hf hu sh => ?_⟩
      refine i_gtup hT rfl (i_gcons ?_)
      walk_at "rd"
      refine i_cmk ?_
      walk_at "rd"
      have cz := sh.cz
      have kz := sh.kz
      have fz := sh.fz
      have uz := sh.uz
      have nms : Paired (NmV K H3) (cs.map V.str) (cs.map fun _ => true) := nms_of fun c hc => ⟨(words_ok c (sh.sub c hc)).2.1, (words_ok c (sh.sub c hc)).1⟩
      refine ⟨rfl, rfl, G, tk, tf, tu, _, _, ks, fs, us, b, rfl, .inl hG, ⟨by rw [List.length_map]; omega, nms, TuS.of hk, TuS.of hf, TuS.of hu, by omega, by omega, by omega⟩, fun rs due => ?_, fun cs' due exs tx H4 s4 tb => ?_⟩
      · rw [sh.due] at due
        cases due
      have ecs : cs = cs' := (List.map_inj_right (f := V.str) (fun a b z => V.str.inj z)).mp exs
      subst ecs
      have tok := sh.tab b
      have tb : Tab C H4 tx (tabS cs ks fs us b) := tb
      have p4 := p3.up s4
      have hG4 := s4 _ _ hG
      have hk4 := s4 _ _ hk
      clear p3 hT hG hk hf hu s4 nms due exs p2
      walk_at "rd"
      unfold tLc
      walk_at "rd"
      refine ⟨G, rfl, ⟨_, SqL.of hG4⟩, fun G2 hG2 => ?_⟩
      obtain ⟨H5, e5, s5, h5⟩ := new_heap (o := .lst []) hG2
      refine lc_list (K := K) (a := G) (xs := cs.map V.str) (fun m H' => Same H4 H' ∧ H' G2 = some (.lst ((among (cs.take m) ks).map V.str))) ⟨by rw [e5]; exact s5, by rw [e5]; exact h5⟩ ?_ ?_ ?_
      · rintro m H' _ ⟨s, _⟩
        exact SqL.of (s _ _ hG4)
      · rintro m y H8 hy ⟨s8, h8⟩
        obtain ⟨c, ec, rfl⟩ := str_at hy
        have sn := among_snoc (ks := ks) ec
        walk_at "rd"
        refine ⟨rfl, ?_⟩
        walk_at "rd"
        refine in_at (.inr (SqT.of (s8 _ _ hk4))) ⟨_, rfl, ?_⟩
        refine ite_d (fun hm => ?_) (fun hm => ?_)
        · rw [if_pos hm] at sn
          walk_at "rd"
          refine ⟨_, h8, size_lt (by rw [List.length_map]; refine Nat.le_trans (List.length_filter_le ..) ?_; rw [List.length_take]; omega), Same.mut s8 hG2, ?_⟩
          rw [upd_same, sn, List.map_append]
          rfl
        · rw [if_neg hm] at sn
          exact ⟨s8, by rw [sn]; exact h8⟩
      rintro H6 ⟨s6, h6⟩
      rw [List.length_map, List.take_length] at h6
      have p6 := p4.up s6
      have hG6 := s6 _ _ hG4
      have hk6 := s6 _ _ hk4
      have tb6 := tb.up s6
      clear e5 s5 h5 hG2 s6 p4 hG4 hk4 tb
      walk_at "rd"
      refine ⟨p, L, _, G2, among cs ks, rfl, p6, by omega, h6, tok.k0, tok.kz, tok.kn, fun gg H7 lo hi hole fr r k7 p7 ra7 => ?_⟩
      have hG7 := k7 _ _ (penny_strs cs) hG6
      have hk7 := k7 _ _ rfl hk6
      have tb7 := tb6.keep k7
      clear k7 h6 p6 hG6 hk6 tb6
      walk_at "rd"
      unfold StX.tMakeR
      walk_at "rd"
      refine i_ixL ra7.1 (v := .ref fr) (by show atI _ ((0 : Nat) : Int) = _; exact atI_nat rfl) ?_
      walk_at "rd"
      intro x dx hx hdx hne
      refine spU_mod hx hdx hne tb7 ra7.2.1 tok ra7.2.2.1 ra7.2.2.2.1 fun kd od sd H8 s8 _ _ _ md8 => ?_
      walk_at "rd"
      refine ⟨Nat.zero_le _, fun ls hls => ?_⟩
      obtain ⟨H9, e9, s9, h9⟩ := new_heap (o := .lst []) hls
      rw [e9]
      walk_at "rd"
      refine ⟨Nat.zero_le _, fun lr hlr => ?_⟩
      obtain ⟨H10, e10, s10, h10⟩ := new_heap (o := .lst []) hlr
      rw [e10]
      have s79 : Same H7 H8 := s8
      have sA : Same H7 H10 := fun b o z => s10 _ _ (s9 _ _ (s8 _ _ z))
      have p8 := p7.up s8
      have pn9 := pen_ne p8 hls
      have pn10 := pen_ne (p8.up s9) hlr
      have ap : Aloof p L G gg ls lr := ⟨pn9.1, pn10.1, pn9.2, pn10.2, ne_of_none (s8 _ _ hG7) hls, ne_of_none (s9 _ _ (s8 _ _ hG7)) hlr, ne_of_none (s8 _ _ ra7.1) hls, ne_of_none (s9 _ _ (s8 _ _ ra7.1)) hlr, ne_of_none h9 hlr⟩
      have sc0 : Scn U C D H10 p L G tk tx gg ls lr cs ks (tabS cs ks fs us b) r lo hi hole fr ⟨x, kd, od, sd, ⟨tabS cs ks fs us b, r, [], [], [], 0⟩, []⟩ [] [] [] (600 * i + 19) 0 :=
        ⟨(p7.up sA).mono (by omega), sA _ _ hG7, sA _ _ hk7, tb7.up sA, ra7.up sA, md8.up (fun b o z => s10 _ _ (s9 _ _ z)), .nil, s10 _ _ h9, .nil, h10, fun _ h => absurd h List.not_mem_nil, Nat.le_refl _, Nat.le_refl _⟩
      clear pn9 pn10 sA s79 p8 p7 hG7 hk7 tb7 ra7 hx hdx hne s8 md8 hls e9 s9 h9 hlr e10 s10 h10
      walk_at "rd"
      refine ⟨by decide, by decide, for_range (lo := 0) (n := 40) (fun j σ H' => ∃ d ss qs rs, ∃ y13 y14 y15 y16 y17 : Option V, σ = [some (.ref a), some (.ref p), some (.int (0 + (i : Int))), some (.ref G), some (.ref tk), some (.ref tf), some (.ref tu), some (.bl b), some (.ref tx), some (.ref gg), some (.ref d.x), some (.ref ls), some (.ref lr), y13, y14, y15, y16, y17, x18, x19, x20, x21] ∧ Scn U C D H' p L G tk tx gg ls lr cs ks (tabS cs ks fs us b) r lo hi hole fr d ss qs rs (600 * i + 19 + 13 * j) j) ⟨_, _, _, _, _, _, _, _, _, rfl, sc0⟩ ?_ ?_⟩
      · clear sc0
        rintro j σ H11 hj ⟨d, ss, qs, rs, y13, y14, y15, y16, y17, rfl, sc⟩
        walk_at "rd"
        refine ⟨p, L, _, G, tk, 3, cs, ks, rfl, sc.pen, by omega, sc.hc, sc.hk, by omega, by decide, by decide, fun tt H12 us12 k12 p12 ht12 ro12 _ => ?_⟩
        have sc12 := sc.keep k12 p12
        clear sc k12 p12
        walk_at "rd"
        refine ⟨G, tk, tt, cs, ks, us12, rfl, sc12.hc, sc12.hk, ht12, Paired.length ro12, by omega, fun bk H13 s13 hb13 => ?_⟩
        have sc13 := sc12.up s13
        have ht13 := s13 _ _ ht12
        obtain ⟨ns, ens, tn, nl⟩ := key_ints ro12
        rw [ens] at hb13
        have pk := dues_picked (ks := ks) sh.cn (Paired.length ro12)
        rw [ens] at pk
        clear sc12 s13 ht12
        walk_at "rd"
        refine ⟨size_of (Nat.le_of_ble_eq_true rfl), fun wl hwl => ?_⟩
        obtain ⟨H14, e14, s14, h14⟩ := new_heap (o := .lst [.str "insert", .str "update", .str "delete", .str "insert"]) hwl
        rw [e14]
        walk_at "rd"
        refine ⟨p, L, _, 4, rfl, (sc13.up s14).pen, by omega, by decide, by decide, fun d4 H15 g0 g1 k15 p15 => ?_⟩
        have sc15 := (sc13.up s14).keep k15 p15
        have ht15 := k15 _ _ rfl (s14 _ _ ht13)
        have hb15 := k15 _ _ rfl (s14 _ _ hb13)
        obtain ⟨wd, ewd, hwd⟩ : ∃ wd : Str, atI [V.str "insert", V.str "update", V.str "delete", V.str "insert"] d4 = some (.str wd) ∧ (wd = "insert" ∨ wd = "update" ∨ wd = "delete") := by
          have cc : d4 = 0 ∨ d4 = 1 ∨ d4 = 2 ∨ d4 = 3 := by omega
          rcases cc with rfl | rfl | rfl | rfl
          · exact ⟨_, rfl, .inl rfl⟩
          · exact ⟨_, rfl, .inr (.inl rfl)⟩
          · exact ⟨_, rfl, .inr (.inr rfl)⟩
          · exact ⟨_, rfl, .inl rfl⟩
        refine i_ixL (k15 _ _ rfl h14) ewd ?_
        clear sc13 ht13 hb13 s14 k15 p15 h14 e14 hwl g0 g1 ewd
        walk_at "rd"
        refine ite_var rfl rfl ?_
        rw [word_if]
        have ztk : (tabS cs ks fs us b).ks = among cs ks := rfl
        have wi : Wish H15 (tabS cs ks fs us b) wd (if wd = "delete" then .ref bk else .ref tt) ns := wishR hwd ht15 hb15 (rowOk_am ro12) pk.symm tn nl
        walk_at "rd"
        have done : ∀ σ' H' d' ss' qs' rs' y17', σ' = [some (V.ref a), some (.ref p), some (.int (0 + (i : Int))), some (.ref G), some (.ref tk), some (.ref tf), some (.ref tu), some (.bl b), some (.ref tx), some (.ref gg), some (.ref d'.x), some (.ref ls), some (.ref lr), some (.int (0 + (j : Int))), some (.ref tt), some (.ref bk), some (.str wd), y17', x18, x19, x20, x21] → Scn U C D H' p L G tk tx gg ls lr cs ks (tabS cs ks fs us b) r lo hi hole fr d' ss' qs' rs' (600 * i + 19 + 13 * (j + 1)) (j + 1) →
          ∃ d ss qs rs, ∃ y13 y14 y15 y16 y17 : Option V, σ' = [some (.ref a), some (.ref p), some (.int (0 + (i : Int))), some (.ref G), some (.ref tk), some (.ref tf), some (.ref tu), some (.bl b), some (.ref tx), some (.ref gg), some (.ref d.x), some (.ref ls), some (.ref lr), y13, y14, y15, y16, y17, x18, x19, x20, x21] ∧ Scn U C D H' p L G tk tx gg ls lr cs ks (tabS cs ks fs us b) r lo hi hole fr d ss qs rs (600 * i + 19 + 13 * (j + 1)) (j + 1) := fun σ' H' d' ss' qs' rs' y17' e sc => ⟨d', ss', qs', rs', _, _, _, _, _, e, sc⟩
        refine sc15.md.call wi (by omega) (fun rs0 due pp H16 s16 hp16 => ?_) (fun due pp t' b' H16 o16 tr16 hb16 ht16 hp16 => ?_)
        · -- refused
          walk_at "rd"
          refine ⟨fun σ' H' => ∃ rs', σ' = [some (V.ref a), some (.ref p), some (.int (0 + (i : Int))), some (.ref G), some (.ref tk), some (.ref tf), some (.ref tu), some (.bl b), some (.ref tx), some (.ref gg), some (.ref d.x), some (.ref ls), some (.ref lr), some (.int (0 + (j : Int))), some (.ref tt), some (.ref bk), some (.str wd), some (.ref pp), x18, x19, x20, x21] ∧ Scn U C D H' p L G tk tx gg ls lr cs ks (tabS cs ks fs us b) r lo hi hole fr d ss qs rs' (600 * i + 19 + 13 * (j + 1)) (j + 1), ?_, ?_⟩
          · walk_at "rd"
            rw [decide_eq_false (show ¬ V.str "refused" = V.str "told" from fun e => absurd (V.str.inj e) (by decide))]
            refine iteF ?_
            have sc16 := sc15.up s16
            have dso := due_ok due
            have drg : rs0 = "region" → ¬ r.sem (rhoK (tabS cs ks fs us b).ks ns) = some true := fun e => by
              rw [e] at due
              exact (due_region sc15.md).mp due
            have wi16 := wi.up s16
            clear wi due sc15
            walk_at "rd"
            refine i_tyL sc16.hr ?_
            walk_at "rd"
            refine ite_var rfl rfl ?_
            rw [word_if]
            walk_at "rd"
            refine ⟨size_of (Nat.le_of_ble_eq_true rfl), fun qn hqn => ?_⟩
            obtain ⟨H17, e17, s17, h17⟩ := new_heap (o := .tup [.str wd, if wd = "delete" then .ref bk else .ref tt, .ref pp]) hqn
            rw [e17]
            walk_at "rd"
            have sc17 := sc16.up s17
            refine i_app sc17.hr (by rw [List.length_map]; have := sc17.rz; omega) ?_
            rw [map_snoc]
            have ol := offL_upd (ys := (rs ++ [qn]).map V.ref) sc17.hr
            have tup18 : ∀ a us, H17 a = some (.tup us) → upd H17 lr (.lst ((rs ++ [qn]).map V.ref)) a = some (.tup us) := fun _ _ e => ol _ _ e (fun _ z => nomatch z)
            have sz := sc17.sz
            have rz := sc17.rz
            refine ⟨rs ++ [qn], rfl, (sc17.mono (by omega) (Nat.le_refl _)).calm ap upd_calm2 ((sc17.md.offL ol).mono (Nat.le_succ j)) sc17.sts (by rw [upd_ne ap.sr]; exact sc17.hl) (sc17.sa.tup tup18) upd_same (fun q0 hq0 => ?_) (by omega) (by rw [List.length_append]; show rs.length + 1 ≤ j + 1; omega)⟩
            rcases List.mem_append.mp hq0 with hq0 | hq0
            · exact (sc17.rf q0 hq0).tup tup18
            · rw [List.mem_singleton.mp hq0]
              exact RefAt.tup tup18 ⟨wd, _, pp, rs0, ns, h17, s17 _ _ hp16, wi16.up s17, dso, drg⟩
          · rintro σ' H17 ⟨rs', rfl, sc17⟩
            walk_at "rd"
            have sz := sc17.sz
            refine ⟨ls, _, r, d, ss, _, qs, rfl, sc17.md, sc17.sts, sc17.hl, sc17.sa, by omega, by omega, fun H18 s18 => ?_⟩
            refine ⟨_, rfl, iteF ?_⟩
            exact done _ _ d ss qs rs' _ rfl (sc17.up s18)
        · -- told
          obtain ⟨new, sok, wS, vN, hN⟩ := sc15.md.told wi due
          obtain ⟨nss', md16⟩ := sc15.md.next sok hN wS.symm vN.symm o16 tr16 hb16
          rw [← vN] at ht16
          have sp := sc15.md.tr.spot
          have tup16 : ∀ a us, H15 a = some (.tup us) → H16 a = some (.tup us) := fun _ _ e => o16.tup sp e
          have sat : StAt H16 t' ⟨ns, fOf ss ns, new⟩ := ⟨b', ht16, hb16, fun p0 e0 => ⟨tup16 _ _ (sc15.md.fr ns p0 e0).1, row_plain (sc15.md.fr ns p0 e0).2.ok⟩, fun p0 e0 => ⟨tup16 _ _ (hN p0 e0), row_plain (sok.row p0 e0).1.ok⟩⟩
          have hl16 := o16.lst sp sc15.hl
          have hr16 := o16.lst sp sc15.hr
          walk_at "rd"
          refine ⟨fun σ' H' => ∃ d' ss' qs', σ' = [some (V.ref a), some (.ref p), some (.int (0 + (i : Int))), some (.ref G), some (.ref tk), some (.ref tf), some (.ref tu), some (.bl b), some (.ref tx), some (.ref gg), some (.ref d'.x), some (.ref ls), some (.ref lr), some (.int (0 + (j : Int))), some (.ref tt), some (.ref bk), some (.str wd), some (.ref pp), x18, x19, x20, x21] ∧ Scn U C D H' p L G tk tx gg ls lr cs ks (tabS cs ks fs us b) r lo hi hole fr d' ss' qs' rs (600 * i + 19 + 13 * (j + 1)) (j + 1), ?_, ?_⟩
          · walk_at "rd"
            rw [decide_eq_true (show V.str "told" = V.str "told" from rfl)]
            refine iteT ?_
            walk_at "rd"
            refine i_tyL hl16 ?_
            walk_at "rd"
            have sz := sc15.sz
            have rz := sc15.rz
            have qlen : qs.length = ss.length := Paired.length sc15.sa
            refine i_app hl16 (by rw [List.length_map]; omega) ?_
            rw [map_snoc]
            have ol := offL_upd (ys := (qs ++ [t']).map V.ref) hl16
            have tup17 : ∀ a us, H16 a = some (.tup us) → upd H16 ls (.lst ((qs ++ [t']).map V.ref)) a = some (.tup us) := fun _ _ e => ol _ _ e (fun _ z => nomatch z)
            have md17 := md16.offL ol
            rw [← fOf_snoc, ← gOf_snoc] at md17
            refine ⟨⟨d.x, d.k, d.o, d.s, _, nss'⟩, ss ++ [⟨ns, fOf ss ns, new⟩], qs ++ [t'], rfl, (sc15.mono (by omega) (Nat.le_refl _)).calm ap ((o16.calm2 sp).trans upd_calm1) (by rw [List.length_append]; exact md17) (.snoc sc15.sts sok) upd_same (sts_app ((sc15.sa.tup tup16).tup tup17) (.cons (sat.tup tup17) .nil)) (by rw [upd_ne ap.sr.symm]; exact hr16) (fun q0 hq0 => ((sc15.rf q0 hq0).tup tup16).tup tup17) (by rw [List.length_append]; show ss.length + 1 ≤ j + 1; omega) (by omega)⟩
          · rintro σ' H17 ⟨d', ss', qs', rfl, sc17⟩
            walk_at "rd"
            have sz := sc17.sz
            refine ⟨ls, _, r, d', ss', _, qs', rfl, sc17.md, sc17.sts, sc17.hl, sc17.sa, by omega, by omega, fun H18 s18 => ?_⟩
            refine ⟨_, rfl, iteF ?_⟩
            exact done _ _ d' ss' qs' rs _ rfl (sc17.up s18)
      · clear sc0
        rintro σ H11 ⟨d, ss, qs, rs, y13, y14, y15, y16, y17, rfl, sc⟩
        have sz := sc.sz
        have rz := sc.rz
        walk_at "rd"
        refine i_ixL sc.ra.1 (v := .ref fr) (by show atI _ ((0 : Nat) : Int) = _; exact atI_nat rfl) ?_
        walk_at "rd"
        refine ⟨tx, fr, ls, _, r, ss, qs, rfl, sc.tab, sc.ra.2.1, tok, sc.ra.2.2.1, sc.ra.2.2.2.1, sc.sts, sc.hl, sc.sa, by omega, fun d2 H12 s12 md2 _ _ _ _ => ?_⟩
        have sc12 := sc.up s12
        clear sc s12
        have k0 : (tabS cs ks fs us b).ks ≠ [] := tok.k0
        have nlA := md2.nl
        have nlB := sc12.md.nl
        have same : rowsOf d2.z.kvs d2.nss = rowsOf d.z.kvs d.nss := md2.same sc12.md
        obtain ⟨dxa, txa, fxa, hxa, _⟩ := md2.tr.ex
        obtain ⟨dxb, txb, fxb, hxb, _⟩ := sc12.md.tr.ex
        walk_at "rd"
        unfold tProp
        walk_at "rd"
        refine iteF ?_
        walk_at "rd"
        refine ⟨d2.x, dxa, _, rfl, hxa, d2.x, d2.k, d2.o, d2.s, d2.z, d2.nss, rfl, md2.tr, md2.ki, md2.nz k0, by omega, fun p1 H13 s13 h13 => ?_⟩
        walk_at "rd"
        refine ⟨d.x, dxb, _, rfl, s13 _ _ hxb, d.x, d.k, d.o, d.s, d.z, d.nss, rfl, sc12.md.tr.up s13, sc12.md.ki, sc12.md.nz k0, by omega, fun p2 H14 s14 h14 => ?_⟩
        rw [same] at h13
        have sc14 := (sc12.up s13).up s14
        have md14 := (md2.up s13).up s14
        have hxa14 := s14 _ _ (s13 _ _ hxa)
        have hxb14 := s14 _ _ (s13 _ _ hxb)
        refine ne_rows (s14 _ _ h13) h14 sc14.md.rowsP ⟨_, rfl, iteF ?_⟩
        clear sc12 md2 h13 h14 s13 s14 hxa hxb
        walk_at "rd"
        refine ⟨d2.x, dxa, _, rfl, hxa14, d2.x, d2.k, d2.o, d2.s, d2.z, rfl, md14.tr, ?_⟩
        walk_at "rd"
        refine ⟨d.x, dxb, _, rfl, hxb14, d.x, d.k, d.o, d.s, d.z, rfl, sc14.md.tr, ?_⟩
        walk_at "rd"
        rw [decide_eq_true (show V.int (d2.z.n : Int) = V.int (d.z.n : Int) by rw [md14.zn, sc14.md.zn])]
        refine iteF ?_
        walk_at "rd"
        clear hxa14 hxb14
        refine ⟨lr, rfl, ⟨_, SqL.of sc14.hr⟩, for_list (K := K) (a := lr) (xs := rs.map V.ref) (fun m σ' H' => ∃ y16 y17 y19 y20 : Option V, σ' = [some (.ref a), some (.ref p), some (.int (0 + (i : Int))), some (.ref G), some (.ref tk), some (.ref tf), some (.ref tu), some (.bl b), some (.ref tx), some (.ref gg), some (.ref d.x), some (.ref ls), some (.ref lr), y13, y14, y15, y16, y17, some (.ref d2.x), y19, y20, x21] ∧ Same H14 H') ⟨_, _, _, _, rfl, Same.refl _⟩ ?_ ?_ ?_⟩
        · rintro m σ' H' _ ⟨_, _, _, _, _, s⟩
          exact SqL.of (s _ _ sc14.hr)
        · rintro m y σ' H15 hy ⟨y16', y17', y19', y20', rfl, s15⟩
          rw [List.getElem?_map] at hy
          obtain ⟨q0, hq0, rfl⟩ := Option.map_eq_some_iff.mp hy
          have sc15 := sc14.up s15
          obtain ⟨w0, y0, hb0, rs0, ns, hq, hh, wi, dso, drg⟩ := sc15.rf q0 (List.mem_of_getElem? hq0)
          obtain ⟨dxb, txb, fxb, hxb, _⟩ := sc15.md.tr.ex
          refine i_gtup hq rfl (i_gcons ?_)
          walk_at "rd"
          refine ⟨d.x, dxb, _, rfl, hxb, d.x, d.k, d.o, d.s, d.z, d.nss, rfl, sc15.md.tr, sc15.md.ki, sc15.md.nz k0, by omega, fun p3 H16 s16 h16 => ?_⟩
          walk_at "rd"
          refine ⟨d.x, dxb, _, rfl, s16 _ _ hxb, d.x, d.k, d.o, d.s, d.z, rfl, sc15.md.tr.up s16, ?_⟩
          walk_at "rd"
          refine ⟨size_of (Nat.le_of_ble_eq_true rfl), fun q1 hq1 => ?_⟩
          obtain ⟨H17, e17, s17, h17⟩ := new_heap (o := .tup [.ref p3, .int (d.z.n : Int)]) hq1
          rw [e17]
          have s1517 : Same H15 H17 := fun c o e => s17 _ _ (s16 _ _ e)
          have hp17 := s17 _ _ h16
          have s1417 : Same H14 H17 := fun c o e => s1517 _ _ (s15 _ _ e)
          walk_at "rd"
          refine i_ixT (s1517 _ _ hh) (v := .str rs0) (by show atI _ ((1 : Nat) : Int) = _; exact atI_nat rfl) ?_
          walk_at "rd"
          by_cases e0 : rs0 = "region"
          · subst e0
            rw [decide_eq_true (show V.str "region" = V.str "region" from rfl)]
            refine iteT ?_
            walk_at "rd"
            have sc17 := sc14.up s1417
            have du : dueW H17 d.z w0 ns y0 = some "region" := (due_region sc17.md).mpr (drg rfl)
            refine sc17.md.call (wi.up s1517) (by omega) (fun rs1 due p5 H18 s18 h18 => ?_) (fun due => by rw [du] at due; cases due)
            have er : "region" = rs1 := by
              rw [du] at due
              exact Option.some.inj due
            subst er
            walk_at "rd"
            refine ne_refused h18 (s18 _ _ (s1517 _ _ hh)) (by decide +kernel) ⟨_, rfl, iteF ?_⟩
            walk_at "rd"
            have s1518 : Same H15 H18 := fun c o e => s18 _ _ (s1517 _ _ e)
            refine ⟨d.x, dxb, _, rfl, s1518 _ _ hxb, d.x, d.k, d.o, d.s, d.z, d.nss, rfl, sc15.md.tr.up s1518, sc15.md.ki, sc15.md.nz k0, by omega, fun p6 H19 s19 h19 => ?_⟩
            walk_at "rd"
            refine ⟨d.x, dxb, _, rfl, s19 _ _ (s1518 _ _ hxb), d.x, d.k, d.o, d.s, d.z, rfl, (sc15.md.tr.up s1518).up s19, ?_⟩
            walk_at "rd"
            refine ⟨size_of (Nat.le_of_ble_eq_true rfl), fun q2 hq2 => ?_⟩
            obtain ⟨H20, e20, s20, h20⟩ := new_heap (o := .tup [.ref p6, .int (d.z.n : Int)]) hq2
            rw [e20]
            have s1820 : Same H18 H20 := fun c o e => s20 _ _ (s19 _ _ e)
            have sc20 := (sc15.up s1518).up s1820
            walk_at "rd"
            refine ne_pair h20 (s1820 _ _ (s18 _ _ h17)) (s20 _ _ h19) (s1820 _ _ (s18 _ _ hp17)) sc20.md.rowsP ⟨_, rfl, iteF ?_⟩
            exact ⟨_, _, _, _, rfl, fun c o e => s1820 _ _ (s18 _ _ (s1417 _ _ e))⟩
          · rw [decide_eq_false (show ¬ V.str rs0 = V.str "region" from fun e => e0 (V.str.inj e))]
            refine iteF ?_
            refine iteF ?_
            walk_at "rd"
            obtain ⟨H18, e18⟩ : ∃ H18, H17 = H18 := ⟨_, rfl⟩
            have s18 : Same H17 H18 := by rw [e18]; exact Same.refl _
            have s1518 : Same H15 H18 := fun c o e => s18 _ _ (s1517 _ _ e)
            rw [e18]
            refine ⟨d.x, dxb, _, rfl, s1518 _ _ hxb, d.x, d.k, d.o, d.s, d.z, d.nss, rfl, sc15.md.tr.up s1518, sc15.md.ki, sc15.md.nz k0, by omega, fun p6 H19 s19 h19 => ?_⟩
            walk_at "rd"
            refine ⟨d.x, dxb, _, rfl, s19 _ _ (s1518 _ _ hxb), d.x, d.k, d.o, d.s, d.z, rfl, (sc15.md.tr.up s1518).up s19, ?_⟩
            walk_at "rd"
            refine ⟨size_of (Nat.le_of_ble_eq_true rfl), fun q2 hq2 => ?_⟩
            obtain ⟨H20, e20, s20, h20⟩ := new_heap (o := .tup [.ref p6, .int (d.z.n : Int)]) hq2
            rw [e20]
            have s1820 : Same H18 H20 := fun c o e => s20 _ _ (s19 _ _ e)
            have sc20 := (sc15.up s1518).up s1820
            walk_at "rd"
            refine ne_pair h20 (s1820 _ _ (s18 _ _ h17)) (s20 _ _ h19) (s1820 _ _ (s18 _ _ hp17)) sc20.md.rowsP ⟨_, rfl, iteF ?_⟩
            exact ⟨_, _, _, _, rfl, fun c o e => s1820 _ _ (s18 _ _ (s1417 _ _ e))⟩
        · rintro σ' H15 ⟨y16', y17', y19', y20', rfl, s15⟩
          have sc15 := sc14.up s15
          have md15 := md14.up s15
          walk_at "rd"
          cases b with
          | false =>
            refine iteF ?_
            walk_at "rd"
            exact ⟨_, _, _, _, _, _, _, _, _, _, _, _, _, _, _, _, _, _, _, _, rfl, sc15.pen.mono (by omega)⟩
          | true =>
            refine iteT ?_
            walk_at "rd"
            refine ⟨ls, _, _, r, d2, _, ss, _, qs, rfl, md15, sc15.sts, rfl, sc15.hl, sc15.sa, by omega, by omega, fun H16 o16 => ?_⟩
            refine ⟨_, rfl, iteF ?_⟩
            walk_at "rd"
            have sp := md15.tr.spot
            obtain ⟨ms, a0, l0, h1, h2, rr⟩ := sc15.pen.mono (show 600 * i + 19 + 13 * 40 ≤ 600 * (i + 1) by omega)
            exact ⟨_, _, _, _, _, _, _, _, _, _, _, _, _, _, _, _, _, _, _, _, rfl, ⟨ms, a0, l0, o16.lst sp h1, o16.lst sp h2, rr⟩⟩
    · rintro σ H2 ⟨x2, x3, x4, x5, x6, x7, x8, x9, x10, x11, x12, x13, x14, x15, x16, x17, x18, x19, x20, x21, rfl, p2⟩
      walk_at "rd"
      exact q _
end
end Spk

set_option Elab.async false
set_option linter.all false
set_option maxRecDepth 100000
set_option maxHeartbeats 4000000
namespace Spk
open PySem L2
section
variable {K : PySem.W.Frag}
theorem bn_of4 {f : Addr} {fd : FuncData} {e1 e2 : Addr} (F : FunD K "of" "Table.of" (defArgs s_Table_of) (defBody s_Table_of) (defScope s_Table_of) [] [("fixed", .ref e1), ("unique", .ref e2), ("reuse", .bl true)] f fd) :
    ∃ mv, KBn K fd ["cls", "columns", "key", "fixed", "unique", "reuse"] 2 ["key", "fixed", "unique", "reuse"] (fun us ws => us ++ ws ++ mv) (fun vs zs => vs ++ zs ++ []) := by
  refine FunD.kbinds0 F 2 ["key", "fixed", "unique", "reuse"] [] (fun us mv ws => us ++ ws ++ mv) (by simp) (fun q hq => absurd hq List.not_mem_nil) (fun a b c => (a.append c).append b) ?_
  intro D doc pm an cdv ct us mv ws l1 l2 l3
  match us, l1 with
  | [u1, u2], _ =>
    match mv, l2 with
    | [], _ =>
      match ws, l3 with
      | [w1, w2, w3, w4], _ => rfl
end
end Spk

set_option Elab.async false
set_option linter.all false
set_option maxRecDepth 100000
set_option maxHeartbeats 1000000
namespace Spk
open PySem L2
/-! ### the facts by name -/
theorem ToldX.fa {K : PySem.W.Frag} (c : ToldX K) (i : Nat) {f : He.Fa} (h : plain[i]? = some f) : f.ok K = true := He5.SaysA.fact c.2 i h
theorem ToldX.fn {K : PySem.W.Frag} (c : ToldX K) (i : Nat) {a : PySem.W.Frag → Addr} {x q : Str} {st : Stmt} (h : defs[i]? = some (dfn a x q st)) : ∃ fd, Fun K x q st (a K) fd := by
  obtain ⟨fd, F⟩ := He5.SaysA.def_ c.2 i h
  exact ⟨fd, He5.fun_of F⟩
structure ClsQ (K : PySem.W.Frag) (C : Addr) : Prop where
  ne : PySem.W.findIn K (.ref C) "__ne__" = some (some (.builtin "object.__ne__"))
  ob : PySem.W.subIn K (.ref C) (.type "object") = some true
  sub : ∀ t, t ∈ six → PySem.W.subIn K (.ref C) (.type t) = some false
  kit : ∀ t, t ∈ six → PySem.W.kitOne K (.type t) (.ref C) = some false
  nf : ∀ t, t ∈ six → PySem.W.notFirst K C (.type t) = true
  cls : PySem.W.findIn K (.ref C) "__class__" = some (some (.builtin "object.__class__"))
  get : PySem.W.specialIn K (.builtin "object.__class__") "__get__" = some (some (.builtin "getset_descriptor.__get__"))
  tk : PySem.W.takesIn K (.builtin "object.__class__") = some true
  mro : PySem.W.mroIn K C (.type "object") = some true
  own : PySem.W.kitOne K (.ref C) (.ref C) = some true
theorem eq_ok {K : PySem.W.Frag} {C : Addr} (h : eqB K C = true) : ClsQ K C := by
  obtain ⟨h2, h⟩ := He.ba h
  obtain ⟨h3, h⟩ := He.ba h
  obtain ⟨h4, h⟩ := He.ba h
  obtain ⟨h5, h⟩ := He.ba h
  obtain ⟨h6, h⟩ := He.ba h
  obtain ⟨h7, h⟩ := He.ba h
  obtain ⟨h8, h⟩ := He.ba h
  obtain ⟨h9, h⟩ := He.ba h
  obtain ⟨h10, h11⟩ := He.ba h
  exact ⟨of_decide_eq_true h2, of_decide_eq_true h3, fun t z => of_decide_eq_true (List.all_eq_true.mp h4 t z), fun t z => of_decide_eq_true (List.all_eq_true.mp h5 t z), fun t z => List.all_eq_true.mp h6 t z, of_decide_eq_true h7, of_decide_eq_true h8, of_decide_eq_true h9, of_decide_eq_true h10, of_decide_eq_true h11⟩
theorem excObj_ok {C : Addr} {o : Obj} (h : excObjB C o = true) : ∃ nm q N bs bm sn sub ab col dd k0 k1 k2 k3 k5, o = excClassObj nm q C N bs bm true sn sub ab col dd k0 k1 k2 k3 k5 "ValueError.__new__" ∧ PySem.HandSPX.refsVE bm = true := by
  obtain ⟨oc, od, dt, sl⟩ := o
  unfold excObjB at h
  obtain ⟨h, h3⟩ := He.ba h
  obtain ⟨h1, h2⟩ := He.ba h
  have ec : oc = .type "type" := eq_of_beq h1
  subst ec
  dsimp only at h2 h3
  split at h2
  · rename_i c ed
    obtain ⟨c1, c2, c3, c4, c5, c6, c7, c8, c9, c10, c11⟩ := c
    obtain ⟨h4, h5⟩ := He.ba h2
    obtain ⟨h6, h7⟩ := He.ba h5
    dsimp only at h4 h6 h7
    split at h4
    · rename_i r bm
      obtain ⟨h8, h9⟩ := He.ba h4
      have er : r = .ref C := eq_of_beq h8
      split at h3
      · rename_i a0 a1 a2 a3 n a5 es
        have en : n = "ValueError.__new__" := eq_of_beq h3
        have e7 : c11 = false := by simpa using h7
        have esl : sl = #[a0, a1, a2, a3, some (.builtin n), a5] := by
          apply Array.toList_inj.mp
          exact es
        subst er en e7 esl h6
        exact ⟨c1, c5, c4, c2, bm, c7, c8, c9, c10, od, a0, a1, a2, a3, a5, rfl, h9⟩
      · cases h3
    · cases h4
  · cases h2
structure ClsR (K : PySem.W.Frag) (C E : Addr) : Prop where
  o : OexC K C
  iC : PySem.W.findIn K (.ref C) "__init__" = some (some (.ref (He.ma K C "__init__")))
  tI : PySem.W.typeIn K (.ref (He.ma K C "__init__")) = some (.type "function")
  noR : PySem.W.findIn K (.ref C) "reason" = some none
  xf : XfC K C
  is : (PySem.W.clsIn K C).isSome = true
  cls : PySem.W.findIn K (.ref C) "__class__" = some (some (.builtin "object.__class__"))
  mro : PySem.W.mroIn K C (.type "object") = some true
  kit : PySem.W.kitOne K (.ref C) (.ref C) = some true
  exm : PySem.W.exmOne K (.ref C) (.ref E) = some true
theorem err_ok {K : PySem.W.Frag} {C E : Addr} (h : errB K C E = true) : ClsR K C E := by
  obtain ⟨h1, h⟩ := He.ba h
  obtain ⟨h2, h⟩ := He.ba h
  obtain ⟨h3, h⟩ := He.ba h
  obtain ⟨h4, h⟩ := He.ba h
  obtain ⟨h5, h⟩ := He.ba h
  obtain ⟨h6, h⟩ := He.ba h
  obtain ⟨h7, h⟩ := He.ba h
  obtain ⟨h8, h⟩ := He.ba h
  obtain ⟨h9, h⟩ := He.ba h
  obtain ⟨h10, h⟩ := He.ba h
  obtain ⟨h11, h⟩ := He.ba h
  obtain ⟨h12, h⟩ := He.ba h
  obtain ⟨h13, h14⟩ := He.ba h
  refine ⟨⟨?_, of_decide_eq_true h2, of_decide_eq_true h3, of_decide_eq_true h4, h5⟩, of_decide_eq_true h6, of_decide_eq_true h7, of_decide_eq_true h8, xfB_ok h9, h10, of_decide_eq_true h11, of_decide_eq_true h12, of_decide_eq_true h13, of_decide_eq_true h14⟩
  split at h1
  · rename_i o ho
    obtain ⟨nm, q, N, bs, bm, sn, sub, ab, col, dd, k0, k1, k2, k3, k5, e, r⟩ := excObj_ok h1
    exact ⟨nm, q, N, bs, bm, sn, sub, ab, col, dd, k0, k1, k2, k3, k5, by rw [ho, e], r⟩
  · cases h1
/-- what is told of classmethods and properties -/
structure ClsC (K : PySem.W.Frag) (C : Addr) (ms : List Str) : Prop where
  rd : ClX.CRead K C (.type "type")
  met : ∀ m, m ∈ ms → ClX.CMet K C (.type "type") m (He.ma K C m) (He5.wf K C "classmethod" m)
theorem clm_ok {K : PySem.W.Frag} {C : Addr} {ms : List Str} (h : clmB K C ms = true) : ClsC K C ms := by
  obtain ⟨h1, h⟩ := He.ba h
  obtain ⟨h2, h3⟩ := He.ba h
  refine ⟨⟨h1, of_decide_eq_true h2⟩, fun m z => ?_⟩
  obtain ⟨a, b⟩ := He.ba (List.all_eq_true.mp h3 m z)
  exact He5.cmet_of a b
theorem prop_ok {K : PySem.W.Frag} {C : Addr} {m : Str} (h : propB K C m = true) : PropOf K C m (He.ma K C m) (He5.wf K C "property" m) := by
  obtain ⟨h1, h⟩ := He.ba h
  obtain ⟨h2, h⟩ := He.ba h
  obtain ⟨h3, h4⟩ := He.ba h
  refine ⟨of_decide_eq_true h1, of_decide_eq_true h2, of_decide_eq_true h3, ?_⟩
  split at h4
  · rename_i a rest e
    refine ⟨rest, ?_⟩
    have e2 : He5.wf K C "property" m = a := by
      unfold He5.wf
      rw [e]
    rw [e2]
    exact e
  · cases h4
structure ClsX (K : PySem.W.Frag) : Prop where
  et : ClsR K (He.ga K "InvalidTable") (He.ga K "FeedError")
  ec : ClsR K (He.ga K "InvalidChange") (He.ga K "FeedError")
  most : ∃ u, ClX.CVal K (He.ga K "Table") (.type "type") "MOST_COLUMNS" (.int 4) u
  e1 : ∀ H, TuS K H (kwa "fixed" K) []
  e2 : ∀ H, TuS K H (kwa "unique" K) []
  e3 : ∀ H, TuS K H (kwi "fixed" K) []
  e4 : ∀ H, TuS K H (kwi "unique" K) []
  ct : ClsC K (He.ga K "Table") ["of"]
  cr : ClsC K (He.ga K "Ranges") ["between", "of"]
  cf : ClsC K (He.ga K "Filter") ["within", "always"]
  eq : ClsQ K (He.ga K "Ranges")
  sr : PySem.W.selfFirst K (He.ga K "Ranges") = true
  sf : PySem.W.selfFirst K (He.ga K "Filter") = true
  rows : PropOf K (He.ga K "Truth") "rows" (He.ma K (He.ga K "Truth") "rows") (He5.wf K (He.ga K "Truth") "property" "rows")
  stamp : PropOf K (He.ga K "Truth") "stamp" (He.ma K (He.ga K "Truth") "stamp") (He5.wf K (He.ga K "Truth") "property" "stamp")
theorem empty_ok {K : PySem.W.Frag} {a : Addr} (h : emptyB K a = true) (H : Hp) : TuS K H a [] := by
  unfold emptyB at h
  split at h
  · rename_i o ho
    obtain ⟨h1, h2⟩ := He.ba h
    have hc : o.cls = .type "tuple" := eq_of_beq h1
    split at h2
    · rename_i its n hd
      have hz : its.size = 0 := eq_of_beq h2
      have e : its.toList = [] := List.eq_nil_of_length_eq_zero (by simpa using hz)
      exact ⟨.inr ⟨o, its, n, ho, hc, hd, by omega, by rw [e]; exact .nil⟩, .kTuple ho hc⟩
    · cases h2
  · cases h
theorem most_ok {K : PySem.W.Frag} {C : Addr} (h : mostB K C = true) : ∃ u, ClX.CVal K C (.type "type") "MOST_COLUMNS" (.int 4) u := by
  unfold mostB at h
  split at h
  · rename_i i t hi
    have e : i = 4 := of_decide_eq_true h
    subst e
    exact ⟨_, hi, _, rfl⟩
  · cases h
theorem more_ok {K : PySem.W.Frag} (h : moreB K = true) : ClsX K := by
  obtain ⟨h1, h⟩ := He.ba h
  obtain ⟨h2, h⟩ := He.ba h
  obtain ⟨h3, h⟩ := He.ba h
  obtain ⟨h4, h⟩ := He.ba h
  obtain ⟨h5, h⟩ := He.ba h
  obtain ⟨h6, h⟩ := He.ba h
  obtain ⟨h7, h⟩ := He.ba h
  obtain ⟨h8, h⟩ := He.ba h
  obtain ⟨h9, h⟩ := He.ba h
  obtain ⟨h10, h⟩ := He.ba h
  obtain ⟨h11, h⟩ := He.ba h
  obtain ⟨h12, h⟩ := He.ba h
  obtain ⟨h13, h⟩ := He.ba h
  obtain ⟨h14, h15⟩ := He.ba h
  exact ⟨err_ok h1, err_ok h2, most_ok h5, fun H => empty_ok h6 H, fun H => empty_ok h7 H, fun H => empty_ok h3 H, fun H => empty_ok h4 H, clm_ok h8, clm_ok h9, clm_ok h10, eq_ok h11, h12, h13, prop_ok h14, prop_ok h15⟩
theorem facts {P : Program} {w : World} {K : PySem.W.Frag} {h : Heap} {mg : Str → Option Value} {f : Addr} (X : K.In h) (G : h.Ns mainGlobals mg) (hfa : mg ("law" : Str) = some (.ref f)) (c : ToldX K) :
    ∃ fd : FuncData, (∀ (s : Shared) (v : Value), BindsTo s fd ⟨[v], []⟩ [("_law_script", v)]) ∧ ∀ base : Heap, K.In base → base.Ns mainGlobals mg → FnOk P w K mg base CX0 29 f fd ["_law_script"] (sp_law K) := by
  have g_start_of := He.glo_ok X G (c.fa 0 (f := .glo "start_of") rfl)
  have g_joined := He.glo_ok X G (c.fa 1 (f := .glo "joined") rfl)
  have g_touches := He.glo_ok X G (c.fa 2 (f := .glo "touches") rfl)
  have g_later_end := He.glo_ok X G (c.fa 3 (f := .glo "later_end") rfl)
  have g_in_parts := He.glo_ok X G (c.fa 4 (f := .glo "in_parts") rfl)
  have g_all_columns := He.glo_ok X G (c.fa 5 (f := .glo "all_columns") rfl)
  have g_truth_of := He.glo_ok X G (c.fa 6 (f := .glo "truth_of") rfl)
  have g_truth_within := He.glo_ok X G (c.fa 7 (f := .glo "truth_within") rfl)
  have g_both := He.glo_ok X G (c.fa 8 (f := .glo "both") rfl)
  have g_either := He.glo_ok X G (c.fa 9 (f := .glo "either") rfl)
  have g_negated := He.glo_ok X G (c.fa 10 (f := .glo "negated") rfl)
  have g_is_number := He.glo_ok X G (c.fa 11 (f := .glo "is_number") rfl)
  have g_is_value := He.glo_ok X G (c.fa 12 (f := .glo "is_value") rfl)
  have g_is_name := He.glo_ok X G (c.fa 13 (f := .glo "is_name") rfl)
  have g_are_names := He.glo_ok X G (c.fa 14 (f := .glo "are_names") rfl)
  have g_is_key := He.glo_ok X G (c.fa 15 (f := .glo "is_key") rfl)
  have g_sequence_of := He.glo_ok X G (c.fa 16 (f := .glo "sequence_of") rfl)
  have g_are_chosen := He.glo_ok X G (c.fa 17 (f := .glo "are_chosen") rfl)
  have g_in_order_of := He.glo_ok X G (c.fa 18 (f := .glo "in_order_of") rfl)
  have g_rows_by_key := He.glo_ok X G (c.fa 19 (f := .glo "rows_by_key") rfl)
  have g_unique_places := He.glo_ok X G (c.fa 20 (f := .glo "unique_places") rfl)
  have g_why_not := He.glo_ok X G (c.fa 21 (f := .glo "why_not") rfl)
  have g_why_not_inserted := He.glo_ok X G (c.fa 22 (f := .glo "why_not_inserted") rfl)
  have g_why_not_updated := He.glo_ok X G (c.fa 23 (f := .glo "why_not_updated") rfl)
  have g_is_taken := He.glo_ok X G (c.fa 24 (f := .glo "is_taken") rfl)
  have g_pen := He.glo_ok X G (c.fa 25 (f := .glo "_law_pen") rfl)
  have g_draw := He.glo_ok X G (c.fa 26 (f := .glo "_law_draw") rfl)
  have g_some := He.glo_ok X G (c.fa 27 (f := .glo "_law_some") rfl)
  have g_region := He.glo_ok X G (c.fa 28 (f := .glo "_law_region") rfl)
  have g_key := He.glo_ok X G (c.fa 29 (f := .glo "_law_key") rfl)
  have g_row := He.glo_ok X G (c.fa 30 (f := .glo "_law_row") rfl)
  have g_call := He.glo_ok X G (c.fa 31 (f := .glo "_law_call") rfl)
  have g_shape := He.glo_ok X G (c.fa 32 (f := .glo "_law_shape") rfl)
  have g_word := He.glo_ok X G (c.fa 33 (f := .glo "_law_word") rfl)
  have g_steps_right := He.glo_ok X G (c.fa 34 (f := .glo "_law_steps_right") rfl)
  have g_made_anew := He.glo_ok X G (c.fa 35 (f := .glo "_law_made_anew") rfl)
  have g_taken_back := He.glo_ok X G (c.fa 36 (f := .glo "_law_taken_back") rfl)
  have g_law := He.glo_ok X G (c.fa 37 (f := .glo "law") rfl)
  have g_InvalidTable := He.glo_ok X G (c.fa 38 (f := .glo "InvalidTable") rfl)
  have g_InvalidChange := He.glo_ok X G (c.fa 39 (f := .glo "InvalidChange") rfl)
  have g_FeedError := He.glo_ok X G (c.fa 40 (f := .glo "FeedError") rfl)
  have g_R := He.glo_ok X G (c.fa 41 (f := .glo "Ranges") rfl)
  have g_CF := He.glo_ok X G (c.fa 42 (f := .glo "Filter") rfl)
  have g_U := He.glo_ok X G (c.fa 43 (f := .glo "Truth") rfl)
  have g_C := He.glo_ok X G (c.fa 44 (f := .glo "Table") rfl)
  have z_abs := He.free_ok X G (c.fa 45 (f := .free "abs") rfl)
  have z_all := He.free_ok X G (c.fa 46 (f := .free "all") rfl)
  have z_any := He.free_ok X G (c.fa 47 (f := .free "any") rfl)
  have z_bool := He.free_ok X G (c.fa 48 (f := .free "bool") rfl)
  have z_dict := He.free_ok X G (c.fa 49 (f := .free "dict") rfl)
  have z_enumerate := He.free_ok X G (c.fa 50 (f := .free "enumerate") rfl)
  have z_int := He.free_ok X G (c.fa 51 (f := .free "int") rfl)
  have z_isinstance := He.free_ok X G (c.fa 52 (f := .free "isinstance") rfl)
  have z_len := He.free_ok X G (c.fa 53 (f := .free "len") rfl)
  have z_list := He.free_ok X G (c.fa 54 (f := .free "list") rfl)
  have z_max := He.free_ok X G (c.fa 55 (f := .free "max") rfl)
  have z_range := He.free_ok X G (c.fa 56 (f := .free "range") rfl)
  have z_set := He.free_ok X G (c.fa 57 (f := .free "set") rfl)
  have z_sorted := He.free_ok X G (c.fa 58 (f := .free "sorted") rfl)
  have z_str := He.free_ok X G (c.fa 59 (f := .free "str") rfl)
  have z_tuple := He.free_ok X G (c.fa 60 (f := .free "tuple") rfl)
  have z_zip := He.free_ok X G (c.fa 61 (f := .free "zip") rfl)
  have cCl := He.cls_ok (c.fa 62 (f := .cls "Table") rfl)
  have cNo_columns := He.noat_ok (c.fa 63 (f := .noat "Table" "columns") rfl)
  have cNo_key := He.noat_ok (c.fa 64 (f := .noat "Table" "key") rfl)
  have cNo_fixed := He.noat_ok (c.fa 65 (f := .noat "Table" "fixed") rfl)
  have cNo_unique := He.noat_ok (c.fa 66 (f := .noat "Table" "unique") rfl)
  have cNo_reuse := He.noat_ok (c.fa 67 (f := .noat "Table" "reuse") rfl)
  have cMk := He.mkr_ok (c.fa 68 (f := .mkr "Table") rfl)
  have mc_is_row := He.meth_ok (c.fa 69 (f := .meth "Table" "is_row") rfl)
  have mc_key_of := He.meth_ok (c.fa 70 (f := .meth "Table" "key_of") rfl)
  have mc_cut := He.meth_ok (c.fa 71 (f := .meth "Table" "cut") rfl)
  have rCl := He.cls_ok (c.fa 72 (f := .cls "Ranges") rfl)
  have rNo_parts := He.noat_ok (c.fa 73 (f := .noat "Ranges" "parts") rfl)
  have rMk := He.mkr_ok (c.fa 74 (f := .mkr "Ranges") rfl)
  have mr_eq := He.meth_ok (c.fa 75 (f := .meth "Ranges" "__eq__") rfl)
  have xCl := He.cls_ok (c.fa 76 (f := .cls "Filter") rfl)
  have xNo_tree := He.noat_ok (c.fa 77 (f := .noat "Filter" "tree") rfl)
  have xNo_columns := He.noat_ok (c.fa 78 (f := .noat "Filter" "columns") rfl)
  have xMk := He.mkr_ok (c.fa 79 (f := .mkr "Filter") rfl)
  have mx_and := He.meth_ok (c.fa 80 (f := .meth "Filter" "__and__") rfl)
  have mx_invert := He.meth_ok (c.fa 81 (f := .meth "Filter" "__invert__") rfl)
  have uCl := He.cls_ok (c.fa 82 (f := .cls "Truth") rfl)
  have uNo_table := He.noat_ok (c.fa 83 (f := .noat "Truth" "table") rfl)
  have uNo_region := He.noat_ok (c.fa 84 (f := .noat "Truth" "region") rfl)
  have uNo_kept := He.noat_ok (c.fa 85 (f := .noat "Truth" "kept") rfl)
  have uNo_owners := He.noat_ok (c.fa 86 (f := .noat "Truth" "owners") rfl)
  have uNo_stamps := He.noat_ok (c.fa 87 (f := .noat "Truth" "stamps") rfl)
  have uNo_changes := He.noat_ok (c.fa 88 (f := .noat "Truth" "changes") rfl)
  have uMk := He.mkr_ok (c.fa 89 (f := .mkr "Truth") rfl)
  have mu_insert := He.meth_ok (c.fa 90 (f := .meth "Truth" "insert") rfl)
  have mu_update := He.meth_ok (c.fa 91 (f := .meth "Truth" "update") rfl)
  have mu_delete := He.meth_ok (c.fa 92 (f := .meth "Truth" "delete") rfl)
  have mu_change := He.meth_ok (c.fa 93 (f := .meth "Truth" "change") rfl)
  have mu_write := He.meth_ok (c.fa 94 (f := .meth "Truth" "write") rfl)
  have mu_row_of := He.meth_ok (c.fa 95 (f := .meth "Truth" "row_of") rfl)
  have mu_stamp_of := He.meth_ok (c.fa 96 (f := .meth "Truth" "stamp_of") rfl)
  have mu_len := He.meth_ok (c.fa 97 (f := .meth "Truth" "__len__") rfl)
  have mu_contains := He.meth_ok (c.fa 98 (f := .meth "Truth" "__contains__") rfl)
  obtain ⟨X_et, X_ec, X_most, X_e1, X_e2, X_e3, X_e4, X_ct, X_cr, X_cf, X_eq, X_sr, X_sf, X_rows, X_stamp⟩ := more_ok c.1
  obtain ⟨fd_start_of, F_start_of⟩ := c.fn 0 (a := at1 "start_of") (x := "start_of") (q := "start_of") (st := Fi.s_start_of) rfl
  have B_start_of := F_start_of.binds (ps := ["stretch"]) fun _ _ _ _ _ _ us hl => match us, hl with | [_], _ => rfl
  obtain ⟨fd_joined, F_joined⟩ := c.fn 1 (a := at1 "joined") (x := "joined") (q := "joined") (st := Fi.s_joined) rfl
  have B_joined := F_joined.binds (ps := ["stretches"]) fun _ _ _ _ _ _ us hl => match us, hl with | [_], _ => rfl
  obtain ⟨fd_touches, F_touches⟩ := c.fn 2 (a := at1 "touches") (x := "touches") (q := "touches") (st := Fi.s_touches) rfl
  have B_touches := F_touches.binds (ps := ["part", "low"]) fun _ _ _ _ _ _ us hl => match us, hl with | [_, _], _ => rfl
  obtain ⟨fd_later_end, F_later_end⟩ := c.fn 3 (a := at1 "later_end") (x := "later_end") (q := "later_end") (st := Fi.s_later_end) rfl
  have B_later_end := F_later_end.binds (ps := ["one", "other"]) fun _ _ _ _ _ _ us hl => match us, hl with | [_, _], _ => rfl
  obtain ⟨fd_in_parts, F_in_parts⟩ := c.fn 4 (a := at1 "in_parts") (x := "in_parts") (q := "in_parts") (st := Fi.s_in_parts) rfl
  have B_in_parts := F_in_parts.binds (ps := ["parts", "number"]) fun _ _ _ _ _ _ us hl => match us, hl with | [_, _], _ => rfl
  obtain ⟨fd_all_columns, F_all_columns⟩ := c.fn 5 (a := at1 "all_columns") (x := "all_columns") (q := "all_columns") (st := Fi.s_all_columns) rfl
  have B_all_columns := F_all_columns.binds (ps := ["one", "other"]) fun _ _ _ _ _ _ us hl => match us, hl with | [_, _], _ => rfl
  obtain ⟨fd_truth_of, F_truth_of⟩ := c.fn 6 (a := at1 "truth_of") (x := "truth_of") (q := "truth_of") (st := Fi.s_truth_of) rfl
  have B_truth_of := F_truth_of.binds (ps := ["tree", "values"]) fun _ _ _ _ _ _ us hl => match us, hl with | [_, _], _ => rfl
  obtain ⟨fd_truth_within, F_truth_within⟩ := c.fn 7 (a := at1 "truth_within") (x := "truth_within") (q := "truth_within") (st := Fi.s_truth_within) rfl
  have B_truth_within := F_truth_within.binds (ps := ["value", "parts"]) fun _ _ _ _ _ _ us hl => match us, hl with | [_, _], _ => rfl
  obtain ⟨fd_both, F_both⟩ := c.fn 8 (a := at1 "both") (x := "both") (q := "both") (st := Fi.s_both) rfl
  have B_both := F_both.binds (ps := ["one", "other"]) fun _ _ _ _ _ _ us hl => match us, hl with | [_, _], _ => rfl
  obtain ⟨fd_either, F_either⟩ := c.fn 9 (a := at1 "either") (x := "either") (q := "either") (st := Fi.s_either) rfl
  have B_either := F_either.binds (ps := ["one", "other"]) fun _ _ _ _ _ _ us hl => match us, hl with | [_, _], _ => rfl
  obtain ⟨fd_negated, F_negated⟩ := c.fn 10 (a := at1 "negated") (x := "negated") (q := "negated") (st := Fi.s_negated) rfl
  have B_negated := F_negated.binds (ps := ["truth"]) fun _ _ _ _ _ _ us hl => match us, hl with | [_], _ => rfl
  obtain ⟨fd_is_number, F_is_number⟩ := c.fn 11 (a := at1 "is_number") (x := "is_number") (q := "is_number") (st := s_is_number) rfl
  have B_is_number := F_is_number.binds (ps := ["thing"]) fun _ _ _ _ _ _ us hl => match us, hl with | [_], _ => rfl
  obtain ⟨fd_is_value, F_is_value⟩ := c.fn 12 (a := at1 "is_value") (x := "is_value") (q := "is_value") (st := s_is_value) rfl
  have B_is_value := F_is_value.binds (ps := ["thing"]) fun _ _ _ _ _ _ us hl => match us, hl with | [_], _ => rfl
  obtain ⟨fd_is_name, F_is_name⟩ := c.fn 13 (a := at1 "is_name") (x := "is_name") (q := "is_name") (st := s_is_name) rfl
  have B_is_name := F_is_name.binds (ps := ["thing"]) fun _ _ _ _ _ _ us hl => match us, hl with | [_], _ => rfl
  obtain ⟨fd_are_names, F_are_names⟩ := c.fn 14 (a := at1 "are_names") (x := "are_names") (q := "are_names") (st := s_are_names) rfl
  have B_are_names := F_are_names.binds (ps := ["things"]) fun _ _ _ _ _ _ us hl => match us, hl with | [_], _ => rfl
  obtain ⟨fd_is_key, F_is_key⟩ := c.fn 15 (a := at1 "is_key") (x := "is_key") (q := "is_key") (st := s_is_key) rfl
  have B_is_key := F_is_key.binds (ps := ["thing", "size"]) fun _ _ _ _ _ _ us hl => match us, hl with | [_, _], _ => rfl
  obtain ⟨fd_sequence_of, F_sequence_of⟩ := c.fn 16 (a := at1 "sequence_of") (x := "sequence_of") (q := "sequence_of") (st := s_sequence_of) rfl
  have B_sequence_of := F_sequence_of.binds (ps := ["things"]) fun _ _ _ _ _ _ us hl => match us, hl with | [_], _ => rfl
  obtain ⟨fd_are_chosen, F_are_chosen⟩ := c.fn 17 (a := at1 "are_chosen") (x := "are_chosen") (q := "are_chosen") (st := s_are_chosen) rfl
  have B_are_chosen := F_are_chosen.binds (ps := ["names", "columns"]) fun _ _ _ _ _ _ us hl => match us, hl with | [_, _], _ => rfl
  obtain ⟨fd_in_order_of, F_in_order_of⟩ := c.fn 18 (a := at1 "in_order_of") (x := "in_order_of") (q := "in_order_of") (st := s_in_order_of) rfl
  have B_in_order_of := F_in_order_of.binds (ps := ["columns", "names"]) fun _ _ _ _ _ _ us hl => match us, hl with | [_, _], _ => rfl
  obtain ⟨fd_rows_by_key, F_rows_by_key⟩ := c.fn 19 (a := at1 "rows_by_key") (x := "rows_by_key") (q := "rows_by_key") (st := s_rows_by_key) rfl
  have B_rows_by_key := F_rows_by_key.binds (ps := ["kept"]) fun _ _ _ _ _ _ us hl => match us, hl with | [_], _ => rfl
  obtain ⟨fd_unique_places, F_unique_places⟩ := c.fn 20 (a := at1 "unique_places") (x := "unique_places") (q := "unique_places") (st := s_unique_places) rfl
  have B_unique_places := F_unique_places.binds (ps := ["table", "row"]) fun _ _ _ _ _ _ us hl => match us, hl with | [_, _], _ => rfl
  obtain ⟨fd_why_not, F_why_not⟩ := c.fn 21 (a := at1 "why_not") (x := "why_not") (q := "why_not") (st := s_why_not) rfl
  have B_why_not := F_why_not.binds (ps := ["truth", "word", "thing"]) fun _ _ _ _ _ _ us hl => match us, hl with | [_, _, _], _ => rfl
  obtain ⟨fd_why_not_inserted, F_why_not_inserted⟩ := c.fn 22 (a := at1 "why_not_inserted") (x := "why_not_inserted") (q := "why_not_inserted") (st := s_why_not_inserted) rfl
  have B_why_not_inserted := F_why_not_inserted.binds (ps := ["truth", "key", "row"]) fun _ _ _ _ _ _ us hl => match us, hl with | [_, _, _], _ => rfl
  obtain ⟨fd_why_not_updated, F_why_not_updated⟩ := c.fn 23 (a := at1 "why_not_updated") (x := "why_not_updated") (q := "why_not_updated") (st := s_why_not_updated) rfl
  have B_why_not_updated := F_why_not_updated.binds (ps := ["truth", "key", "row"]) fun _ _ _ _ _ _ us hl => match us, hl with | [_, _, _], _ => rfl
  obtain ⟨fd_is_taken, F_is_taken⟩ := c.fn 24 (a := at1 "is_taken") (x := "is_taken") (q := "is_taken") (st := s_is_taken) rfl
  have B_is_taken := F_is_taken.binds (ps := ["truth", "key", "row"]) fun _ _ _ _ _ _ us hl => match us, hl with | [_, _, _], _ => rfl
  obtain ⟨fd_pen, F_pen⟩ := c.fn 25 (a := at1 "_law_pen") (x := "_law_pen") (q := "_law_pen") (st := s_pen) rfl
  have B_pen := F_pen.binds (ps := ["_law_script"]) fun _ _ _ _ _ _ us hl => match us, hl with | [_], _ => rfl
  obtain ⟨fd_draw, F_draw⟩ := c.fn 26 (a := at1 "_law_draw") (x := "_law_draw") (q := "_law_draw") (st := s_draw) rfl
  have B_draw := F_draw.binds (ps := ["_law_pen_here", "_law_many"]) fun _ _ _ _ _ _ us hl => match us, hl with | [_, _], _ => rfl
  obtain ⟨fd_some, F_some⟩ := c.fn 27 (a := at1 "_law_some") (x := "_law_some") (q := "_law_some") (st := s_some) rfl
  have B_some := F_some.binds (ps := ["_law_pen_here", "_law_names", "_law_most"]) fun _ _ _ _ _ _ us hl => match us, hl with | [_, _, _], _ => rfl
  obtain ⟨fd_region, F_region⟩ := c.fn 28 (a := at1 "_law_region") (x := "_law_region") (q := "_law_region") (st := s_region) rfl
  have B_region := F_region.binds (ps := ["_law_pen_here", "_law_keyed"]) fun _ _ _ _ _ _ us hl => match us, hl with | [_, _], _ => rfl
  obtain ⟨fd_key, F_key⟩ := c.fn 29 (a := at1 "_law_key") (x := "_law_key") (q := "_law_key") (st := s_key) rfl
  have B_key := F_key.binds (ps := ["_law_columns", "_law_keyed", "_law_row_here"]) fun _ _ _ _ _ _ us hl => match us, hl with | [_, _, _], _ => rfl
  obtain ⟨fd_row, F_row⟩ := c.fn 30 (a := at1 "_law_row") (x := "_law_row") (q := "_law_row") (st := s_row) rfl
  have B_row := F_row.binds (ps := ["_law_pen_here", "_law_columns", "_law_keyed", "_law_wide"]) fun _ _ _ _ _ _ us hl => match us, hl with | [_, _, _, _], _ => rfl
  obtain ⟨fd_call, F_call⟩ := c.fn 31 (a := at1 "_law_call") (x := "_law_call") (q := "_law_call") (st := s_call) rfl
  have B_call := F_call.binds (ps := ["_law_truth", "_law_word_here", "_law_thing"]) fun _ _ _ _ _ _ us hl => match us, hl with | [_, _, _], _ => rfl
  obtain ⟨fd_shape, F_shape⟩ := c.fn 32 (a := at1 "_law_shape") (x := "_law_shape") (q := "_law_shape") (st := s_shape) rfl
  have B_shape := F_shape.binds (ps := ["_law_pen_here"]) fun _ _ _ _ _ _ us hl => match us, hl with | [_], _ => rfl
  obtain ⟨fd_word, F_word⟩ := c.fn 33 (a := at1 "_law_word") (x := "_law_word") (q := "_law_word") (st := s_word) rfl
  have B_word := F_word.binds (ps := ["_law_step"]) fun _ _ _ _ _ _ us hl => match us, hl with | [_], _ => rfl
  obtain ⟨fd_steps_right, F_steps_right⟩ := c.fn 34 (a := at1 "_law_steps_right") (x := "_law_steps_right") (q := "_law_steps_right") (st := s_steps_right) rfl
  have B_steps_right := F_steps_right.binds (ps := ["_law_truth", "_law_steps"]) fun _ _ _ _ _ _ us hl => match us, hl with | [_, _], _ => rfl
  obtain ⟨fd_made_anew, F_made_anew⟩ := c.fn 35 (a := at1 "_law_made_anew") (x := "_law_made_anew") (q := "_law_made_anew") (st := s_made_anew) rfl
  have B_made_anew := F_made_anew.binds (ps := ["_law_table", "_law_region_here", "_law_steps"]) fun _ _ _ _ _ _ us hl => match us, hl with | [_, _, _], _ => rfl
  obtain ⟨fd_taken_back, F_taken_back⟩ := c.fn 36 (a := at1 "_law_taken_back") (x := "_law_taken_back") (q := "_law_taken_back") (st := s_taken_back) rfl
  have B_taken_back := F_taken_back.binds (ps := ["_law_truth", "_law_steps", "_law_firm"]) fun _ _ _ _ _ _ us hl => match us, hl with | [_, _, _], _ => rfl
  obtain ⟨fd_law, D_law⟩ := He5.SaysA.def_ c.2 37 (d := dfn (at1 "law") "law" "law" s_law) rfl
  have F_law : Fun K "law" "law" s_law (He.ga K "law") fd_law := He5.fun_of D_law
  have bl := FunD.bindsA (ps := ["_law_script"]) D_law fun _ _ _ _ _ _ us hl => match us, hl with | [_], _ => rfl
  obtain ⟨fd_iinit, F_iinit⟩ : ∃ fd, Fun K "__init__" "InvalidTable.__init__" s_InvalidTable__init (He.ma K (He.ga K "InvalidTable") "__init__") fd := c.fn 38 (a := atM "InvalidTable" "__init__") (x := "__init__") (q := "InvalidTable.__init__") (st := s_InvalidTable__init) rfl
  have B_iinit := F_iinit.binds (ps := ["self", "reason"]) fun _ _ _ _ _ _ us hl => match us, hl with | [_, _], _ => rfl
  obtain ⟨fd_cinit, F_cinit⟩ : ∃ fd, Fun K "__init__" "InvalidChange.__init__" s_InvalidChange__init (He.ma K (He.ga K "InvalidChange") "__init__") fd := c.fn 39 (a := atM "InvalidChange" "__init__") (x := "__init__") (q := "InvalidChange.__init__") (st := s_InvalidChange__init) rfl
  have B_cinit := F_cinit.binds (ps := ["self", "reason"]) fun _ _ _ _ _ _ us hl => match us, hl with | [_, _], _ => rfl
  obtain ⟨fd_rinit, F_rinit⟩ : ∃ fd, Fun K "__init__" "Ranges.__init__" Fi.s_Ranges__init (He.ma K (He.ga K "Ranges") "__init__") fd := c.fn 40 (a := atM "Ranges" "__init__") (x := "__init__") (q := "Ranges.__init__") (st := Fi.s_Ranges__init) rfl
  have B_rinit := F_rinit.binds (ps := ["self", "parts"]) fun _ _ _ _ _ _ us hl => match us, hl with | [_, _], _ => rfl
  obtain ⟨fd_xinit, F_xinit⟩ : ∃ fd, Fun K "__init__" "Filter.__init__" Fi.s_Filter__init (He.ma K (He.ga K "Filter") "__init__") fd := c.fn 41 (a := atM "Filter" "__init__") (x := "__init__") (q := "Filter.__init__") (st := Fi.s_Filter__init) rfl
  have B_xinit := F_xinit.binds (ps := ["self", "tree", "columns"]) fun _ _ _ _ _ _ us hl => match us, hl with | [_, _, _], _ => rfl
  obtain ⟨fd_xand, F_xand⟩ : ∃ fd, Fun K "__and__" "Filter.__and__" Fi.s_Filter__and (He.ma K (He.ga K "Filter") "__and__") fd := c.fn 42 (a := atM "Filter" "__and__") (x := "__and__") (q := "Filter.__and__") (st := Fi.s_Filter__and) rfl
  have B_xand := F_xand.binds (ps := ["self", "other"]) fun _ _ _ _ _ _ us hl => match us, hl with | [_, _], _ => rfl
  obtain ⟨fd_xinvert, F_xinvert⟩ : ∃ fd, Fun K "__invert__" "Filter.__invert__" Fi.s_Filter__invert (He.ma K (He.ga K "Filter") "__invert__") fd := c.fn 43 (a := atM "Filter" "__invert__") (x := "__invert__") (q := "Filter.__invert__") (st := Fi.s_Filter__invert) rfl
  have B_xinvert := F_xinvert.binds (ps := ["self"]) fun _ _ _ _ _ _ us hl => match us, hl with | [_], _ => rfl
  obtain ⟨fd_init, D_init0⟩ := He5.SaysA.def_ c.2 44 (d := dfi (atM "Table" "__init__") "__init__" "Table.__init__" s_Table__init) rfl
  have F_init : Fun K "__init__" "Table.__init__" s_Table__init (He.ma K (He.ga K "Table") "__init__") fd_init := He5.fun_of D_init0
  obtain ⟨fd_is_row, F_is_row⟩ : ∃ fd, Fun K "is_row" "Table.is_row" s_Table_is_row (He.ma K (He.ga K "Table") "is_row") fd := c.fn 45 (a := atM "Table" "is_row") (x := "is_row") (q := "Table.is_row") (st := s_Table_is_row) rfl
  have B_is_row := F_is_row.binds (ps := ["self", "thing"]) fun _ _ _ _ _ _ us hl => match us, hl with | [_, _], _ => rfl
  obtain ⟨fd_key_of, F_key_of⟩ : ∃ fd, Fun K "key_of" "Table.key_of" s_Table_key_of (He.ma K (He.ga K "Table") "key_of") fd := c.fn 46 (a := atM "Table" "key_of") (x := "key_of") (q := "Table.key_of") (st := s_Table_key_of) rfl
  have B_key_of := F_key_of.binds (ps := ["self", "row"]) fun _ _ _ _ _ _ us hl => match us, hl with | [_, _], _ => rfl
  obtain ⟨fd_cut, F_cut⟩ : ∃ fd, Fun K "cut" "Table.cut" s_Table_cut (He.ma K (He.ga K "Table") "cut") fd := c.fn 47 (a := atM "Table" "cut") (x := "cut") (q := "Table.cut") (st := s_Table_cut) rfl
  have B_cut := F_cut.binds (ps := ["self", "row", "columns"]) fun _ _ _ _ _ _ us hl => match us, hl with | [_, _, _], _ => rfl
  obtain ⟨fd_uinit, F_uinit⟩ : ∃ fd, Fun K "__init__" "Truth.__init__" s_Truth__init (He.ma K (He.ga K "Truth") "__init__") fd := c.fn 48 (a := atM "Truth" "__init__") (x := "__init__") (q := "Truth.__init__") (st := s_Truth__init) rfl
  have B_uinit := F_uinit.binds (ps := ["self", "table", "region"]) fun _ _ _ _ _ _ us hl => match us, hl with | [_, _, _], _ => rfl
  obtain ⟨fd_uinsert, F_uinsert⟩ : ∃ fd, Fun K "insert" "Truth.insert" s_Truth_insert (He.ma K (He.ga K "Truth") "insert") fd := c.fn 49 (a := atM "Truth" "insert") (x := "insert") (q := "Truth.insert") (st := s_Truth_insert) rfl
  have B_uinsert := F_uinsert.binds (ps := ["self", "row"]) fun _ _ _ _ _ _ us hl => match us, hl with | [_, _], _ => rfl
  obtain ⟨fd_uupdate, F_uupdate⟩ : ∃ fd, Fun K "update" "Truth.update" s_Truth_update (He.ma K (He.ga K "Truth") "update") fd := c.fn 50 (a := atM "Truth" "update") (x := "update") (q := "Truth.update") (st := s_Truth_update) rfl
  have B_uupdate := F_uupdate.binds (ps := ["self", "row"]) fun _ _ _ _ _ _ us hl => match us, hl with | [_, _], _ => rfl
  obtain ⟨fd_udelete, F_udelete⟩ : ∃ fd, Fun K "delete" "Truth.delete" s_Truth_delete (He.ma K (He.ga K "Truth") "delete") fd := c.fn 51 (a := atM "Truth" "delete") (x := "delete") (q := "Truth.delete") (st := s_Truth_delete) rfl
  have B_udelete := F_udelete.binds (ps := ["self", "key"]) fun _ _ _ _ _ _ us hl => match us, hl with | [_, _], _ => rfl
  obtain ⟨fd_uchange, F_uchange⟩ : ∃ fd, Fun K "change" "Truth.change" s_Truth_change (He.ma K (He.ga K "Truth") "change") fd := c.fn 52 (a := atM "Truth" "change") (x := "change") (q := "Truth.change") (st := s_Truth_change) rfl
  have B_uchange := F_uchange.binds (ps := ["self", "word", "thing"]) fun _ _ _ _ _ _ us hl => match us, hl with | [_, _, _], _ => rfl
  obtain ⟨fd_uwrite, F_uwrite⟩ : ∃ fd, Fun K "write" "Truth.write" s_Truth_write (He.ma K (He.ga K "Truth") "write") fd := c.fn 53 (a := atM "Truth" "write") (x := "write") (q := "Truth.write") (st := s_Truth_write) rfl
  have B_uwrite := F_uwrite.binds (ps := ["self", "key", "old", "new"]) fun _ _ _ _ _ _ us hl => match us, hl with | [_, _, _, _], _ => rfl
  obtain ⟨fd_urows, F_urows⟩ : ∃ fd, Fun K "rows" "Truth.rows" s_Truth_rows (He5.wf K (He.ga K "Truth") "property" "rows") fd := c.fn 54 (a := atP "Truth" "rows") (x := "rows") (q := "Truth.rows") (st := s_Truth_rows) rfl
  have B_urows := F_urows.binds (ps := ["self"]) fun _ _ _ _ _ _ us hl => match us, hl with | [_], _ => rfl
  obtain ⟨fd_ustamp, F_ustamp⟩ : ∃ fd, Fun K "stamp" "Truth.stamp" s_Truth_stamp (He5.wf K (He.ga K "Truth") "property" "stamp") fd := c.fn 55 (a := atP "Truth" "stamp") (x := "stamp") (q := "Truth.stamp") (st := s_Truth_stamp) rfl
  have B_ustamp := F_ustamp.binds (ps := ["self"]) fun _ _ _ _ _ _ us hl => match us, hl with | [_], _ => rfl
  obtain ⟨fd_urow_of, F_urow_of⟩ : ∃ fd, Fun K "row_of" "Truth.row_of" s_Truth_row_of (He.ma K (He.ga K "Truth") "row_of") fd := c.fn 56 (a := atM "Truth" "row_of") (x := "row_of") (q := "Truth.row_of") (st := s_Truth_row_of) rfl
  have B_urow_of := F_urow_of.binds (ps := ["self", "key"]) fun _ _ _ _ _ _ us hl => match us, hl with | [_, _], _ => rfl
  obtain ⟨fd_ustamp_of, F_ustamp_of⟩ : ∃ fd, Fun K "stamp_of" "Truth.stamp_of" s_Truth_stamp_of (He.ma K (He.ga K "Truth") "stamp_of") fd := c.fn 57 (a := atM "Truth" "stamp_of") (x := "stamp_of") (q := "Truth.stamp_of") (st := s_Truth_stamp_of) rfl
  have B_ustamp_of := F_ustamp_of.binds (ps := ["self", "key"]) fun _ _ _ _ _ _ us hl => match us, hl with | [_, _], _ => rfl
  obtain ⟨fd_ulen, F_ulen⟩ : ∃ fd, Fun K "__len__" "Truth.__len__" s_Truth__len (He.ma K (He.ga K "Truth") "__len__") fd := c.fn 58 (a := atM "Truth" "__len__") (x := "__len__") (q := "Truth.__len__") (st := s_Truth__len) rfl
  have B_ulen := F_ulen.binds (ps := ["self"]) fun _ _ _ _ _ _ us hl => match us, hl with | [_], _ => rfl
  obtain ⟨fd_ucontains, F_ucontains⟩ : ∃ fd, Fun K "__contains__" "Truth.__contains__" s_Truth__contains (He.ma K (He.ga K "Truth") "__contains__") fd := c.fn 59 (a := atM "Truth" "__contains__") (x := "__contains__") (q := "Truth.__contains__") (st := s_Truth__contains) rfl
  have B_ucontains := F_ucontains.binds (ps := ["self", "key"]) fun _ _ _ _ _ _ us hl => match us, hl with | [_, _], _ => rfl
  obtain ⟨fd_rof, F_rof⟩ : ∃ fd, Fun K "of" "Ranges.of" Fi.s_Ranges_of (He5.wf K (He.ga K "Ranges") "classmethod" "of") fd := c.fn 60 (a := atC "Ranges" "of") (x := "of") (q := "Ranges.of") (st := Fi.s_Ranges_of) rfl
  obtain ⟨fd_rbetween, F_rbetween⟩ : ∃ fd, Fun K "between" "Ranges.between" Fi.s_Ranges_between (He5.wf K (He.ga K "Ranges") "classmethod" "between") fd := c.fn 61 (a := atC "Ranges" "between") (x := "between") (q := "Ranges.between") (st := Fi.s_Ranges_between) rfl
  have B_rbetween := F_rbetween.binds (ps := ["cls", "low", "high"]) fun _ _ _ _ _ _ us hl => match us, hl with | [_, _, _], _ => rfl
  obtain ⟨fd_xwithin, F_xwithin⟩ : ∃ fd, Fun K "within" "Filter.within" Fi.s_Filter_within (He5.wf K (He.ga K "Filter") "classmethod" "within") fd := c.fn 62 (a := atC "Filter" "within") (x := "within") (q := "Filter.within") (st := Fi.s_Filter_within) rfl
  have B_xwithin := F_xwithin.binds (ps := ["cls", "column", "ranges"]) fun _ _ _ _ _ _ us hl => match us, hl with | [_, _, _], _ => rfl
  obtain ⟨fd_xalways, F_xalways⟩ : ∃ fd, Fun K "always" "Filter.always" Fi.s_Filter_always (He5.wf K (He.ga K "Filter") "classmethod" "always") fd := c.fn 63 (a := atC "Filter" "always") (x := "always") (q := "Filter.always") (st := Fi.s_Filter_always) rfl
  have B_xalways := F_xalways.binds (ps := ["cls"]) fun _ _ _ _ _ _ us hl => match us, hl with | [_], _ => rfl
  obtain ⟨fd_of, D_of⟩ := He5.SaysA.def_ c.2 64 (d := dfk (atC "Table" "of") "of" "Table.of" s_Table_of) rfl
  have F_of : Fun K "of" "Table.of" s_Table_of (He5.wf K (He.ga K "Table") "classmethod" "of") fd_of := He5.fun_of D_of
  generalize eC : He.ga K "Table" = C at *
  generalize eR : He.ga K "Ranges" = R at *
  generalize eD : He.ga K "Filter" = D at *
  generalize eU : He.ga K "Truth" = U at *
  have e := hfa.symm.trans g_law
  cases e
  have T : ClsT K mg C (He.ma K C "__init__") (.type "type") _ _ := ⟨cCl, cNo_columns, cNo_key, cNo_fixed, cNo_unique, cNo_reuse, cMk, g_C, X_ct.rd, X_ct.met "of" (by decide), X_most⟩
  have XI : XIt K mg (He.ga K "InvalidTable") (He.ma K (He.ga K "InvalidTable") "__init__") := ⟨X_et.o, X_et.iC, X_et.tI, g_InvalidTable, X_et.noR⟩
  have XC : XCt K mg (He.ga K "InvalidChange") (He.ma K (He.ga K "InvalidChange") "__init__") := ⟨X_ec.o, X_ec.iC, X_ec.tI, g_InvalidChange, X_ec.noR⟩
  have XE : XEc K mg (He.ga K "InvalidChange") (He.ga K "FeedError") := ⟨X_ec.xf, ⟨X_ec.is, X_ec.xf.ga, X_ec.xf.gg, X_ec.xf.exC, X_ec.cls, X_eq.get, X_eq.tk, X_ec.mro⟩, X_ec.kit, X_ec.exm, g_FeedError⟩
  have CN : ClsN K C (He.ma K C "is_row") (He.ma K C "key_of") (He.ma K C "cut") := ⟨mc_is_row, mc_key_of, mc_cut⟩
  have TR : Fi.ClsT K mg R (He.ma K R "__init__") (He.ma K R "__eq__") := ⟨rCl, rNo_parts, rMk, g_R, X_sr, ⟨mr_eq.1, X_eq.ne, mr_eq.2, ⟨X_eq.ob, X_eq.sub _ (by decide), X_eq.sub _ (by decide), X_eq.sub _ (by decide), X_eq.sub _ (by decide), X_eq.sub _ (by decide), X_eq.sub _ (by decide)⟩⟩, X_eq.cls, X_eq.get, X_eq.tk, X_eq.mro, X_eq.own,
    X_eq.kit _ (by decide), X_eq.kit _ (by decide), X_eq.kit _ (by decide), X_eq.kit _ (by decide), X_eq.kit _ (by decide), X_eq.kit _ (by decide)⟩
  have TF : Fi.ClsF K mg D (He.ma K D "__init__") := ⟨xCl, xNo_tree, xNo_columns, xMk, g_CF⟩
  have CM : ClsRg K R (.type "type") _ _ _ _ := ⟨X_cr.rd, X_cr.met "between" (by decide), X_cr.met "of" (by decide)⟩
  have CF : ClsFg K D (.type "type") _ _ _ _ (He.ma K D "__and__") (He.ma K D "__invert__") := ⟨X_cf.rd, X_cf.met "within" (by decide), X_cf.met "always" (by decide), X_sf, mx_and.1, mx_and.2, mx_invert.1, mx_invert.2⟩
  have TU : ClsU K mg U (He.ma K U "__init__") := ⟨uCl, uNo_table, uNo_region, uNo_kept, uNo_owners, uNo_stamps, uNo_changes, uMk, g_U⟩
  have UN : ClsUN K U (He.ma K U "insert") (He.ma K U "update") (He.ma K U "delete") (He.ma K U "change") (He.ma K U "write") (He.ma K U "row_of") (He.ma K U "stamp_of") (He.ma K U "__len__") (He.ma K U "__contains__") := ⟨mu_insert, mu_update, mu_delete, mu_change, mu_write, mu_row_of, mu_stamp_of, mu_len.1, mu_len.2, mu_contains.1, mu_contains.2⟩
  refine ⟨fd_law, fun s v => bl s [v] rfl, fun base _ _ => ?_⟩
  have G_iinit := ok_iinit (P := P) (w := w) (mg := mg) (base := base) F_iinit XI
  have G_cinit := ok_cinit (P := P) (w := w) (mg := mg) (base := base) F_cinit XC
  have G_is_number := ok_is_number (P := P) (w := w) (mg := mg) (base := base) F_is_number z_isinstance z_int z_bool
  have G_is_value := ok_is_value (P := P) (w := w) (mg := mg) (base := base) F_is_value F_is_number B_is_number g_is_number G_is_number z_abs
  have G_is_name := ok_is_name (P := P) (w := w) (mg := mg) (base := base) F_is_name z_isinstance z_str z_len z_all
  have G_are_names := ok_are_names (P := P) (w := w) (mg := mg) (base := base) F_are_names F_is_name B_is_name g_is_name G_is_name z_len z_all z_set
  have G_sequence_of := ok_sequence_of (P := P) (w := w) (mg := mg) (base := base) F_sequence_of z_isinstance z_list z_tuple
  have G_are_chosen := ok_are_chosen (P := P) (w := w) (mg := mg) (base := base) F_are_chosen z_isinstance z_tuple z_str z_len z_all z_set
  have G_in_order_of := ok_in_order_of (P := P) (w := w) (mg := mg) (base := base) F_in_order_of z_tuple
  have FI := ok_tinit F_init T XI B_iinit G_iinit F_are_names B_are_names g_are_names G_are_names F_are_chosen B_are_chosen g_are_chosen G_are_chosen F_in_order_of B_in_order_of g_in_order_of G_in_order_of z_len
  have G_of := ok_tof F_of T FI F_sequence_of B_sequence_of g_sequence_of G_sequence_of
  obtain ⟨mv4, hb4⟩ := bn_of4 D_of
  have R_is_row : FnR P w K mg base CX0 3 (He.ma K C "is_row") (mR K C) := FnOk.raw (ok_is_row F_is_row T F_is_value B_is_value g_is_value G_is_value z_isinstance z_tuple z_len z_all z_zip) B_is_row .nil
  have R_cut : FnR P w K mg base CX0 1 (He.ma K C "cut") (mC K C) := FnOk.raw (ok_cut F_cut T z_tuple) B_cut .nil
  have R_key_of : FnR P w K mg base CX0 2 (He.ma K C "key_of") (mY C) := FnOk.raw (ok_key_of F_key_of T CN R_cut) B_key_of .nil
  have G_joined := Fi.ok_joined (P := P) (w := w) (mg := mg) (base := base) F_joined F_start_of B_start_of g_start_of F_touches B_touches g_touches F_later_end B_later_end g_later_end z_max z_sorted z_tuple
  have R_between : FnR P w K mg base CX0 3 (He5.wf K R "classmethod" "between") (fun vs H Q E => Fi.sp_between R (vs ++ []) H Q E) := FnOk.raw (Fi.ok_between F_rbetween F_rinit B_rinit TR) B_rbetween .nil
  have R_of : FnR P w K mg base CX0 5 (He5.wf K R "classmethod" "of") (Fi.sp_of R) := Fi.ok_of F_rof F_rinit B_rinit TR F_joined B_joined g_joined G_joined
  have G_in_parts := Fi.ok_in_parts (P := P) (w := w) (mg := mg) (base := base) F_in_parts z_len
  have G_truth_within := Fi.ok_truth_within (P := P) (w := w) (mg := mg) (base := base) F_truth_within F_in_parts B_in_parts g_in_parts G_in_parts
  have G_both := Fi.ok_both (P := P) (w := w) (mg := mg) (base := base) F_both
  have G_either := Fi.ok_either (P := P) (w := w) (mg := mg) (base := base) F_either
  have G_negated := Fi.ok_negated (P := P) (w := w) (mg := mg) (base := base) F_negated
  have G_truth_of := Fi.ok_truth (P := P) (w := w) (mg := mg) (base := base) F_truth_of B_truth_of g_truth_of F_truth_within B_truth_within g_truth_within G_truth_within F_both B_both g_both G_both F_either B_either g_either G_either F_negated B_negated g_negated G_negated 20
  have G_all_columns := Fi.ok_all_columns (P := P) (w := w) (mg := mg) (base := base) F_all_columns z_tuple z_sorted z_set
  have RF_within : FnR P w K mg base CX0 3 (He5.wf K D "classmethod" "within") (fun vs H Q E => Fi.sp_fwithin R D (vs ++ []) H Q E) := FnOk.raw (Fi.ok_fwithin F_xwithin F_xinit B_xinit TF TR) B_xwithin .nil
  have RF_always : FnR P w K mg base CX0 3 (He5.wf K D "classmethod" "always") (fun vs H Q E => Fi.sp_falways D (vs ++ []) H Q E) := FnOk.raw (Fi.ok_falways F_xalways F_xinit B_xinit TF) B_xalways .nil
  have RF_and : FnR P w K mg base CX0 3 (He.ma K D "__and__") (fun vs H Q E => Fi.sp_fand D (vs ++ []) H Q E) := FnOk.raw (Fi.ok_fand F_xand F_xinit B_xinit TF F_all_columns B_all_columns g_all_columns G_all_columns) B_xand .nil
  have RF_inv : FnR P w K mg base CX0 3 (He.ma K D "__invert__") (fun vs H Q E => Fi.sp_finv D (vs ++ []) H Q E) := FnOk.raw (Fi.ok_finv F_xinvert F_xinit B_xinit TF) B_xinvert .nil
  have G_is_key := ok_is_key F_is_key F_is_value B_is_value g_is_value G_is_value z_isinstance z_tuple z_len z_all
  have G_rows_by_key := ok_rows_by_key (P := P) (w := w) (mg := mg) (base := base) F_rows_by_key z_tuple z_sorted z_list
  have RUI : FnR P w K mg base CX0 1 (He.ma K U "__init__") (spU U) := FnOk.raw (ok_uinit F_uinit TU) B_uinit .nil
  have G_rows := ok_urows (C := C) (D := D) F_urows TU F_rows_by_key B_rows_by_key g_rows_by_key G_rows_by_key
  have G_stamp := ok_ustamp (P := P) (w := w) (base := base) (C := C) (D := D) F_ustamp TU
  have RU_len : FnR P w K mg base CX0 1 (He.ma K U "__len__") (fun vs H Q E => sp_ulen U C D (vs ++ []) H Q E) := FnOk.raw (ok_ulen F_ulen TU z_len) B_ulen .nil
  have RU_contains : FnR P w K mg base CX0 4 (He.ma K U "__contains__") (mCon K U C D) := FnOk.raw (ok_ucon F_ucontains T TU F_is_key B_is_key g_is_key G_is_key z_len) B_ucontains .nil
  have RU_row_of : FnR P w K mg base CX0 5 (He.ma K U "row_of") (fun vs H Q E => sp_urow K U C D (vs ++ []) H Q E) := FnOk.raw (ok_urow F_urow_of TU UN RU_contains) B_urow_of .nil
  have RU_stamp_of : FnR P w K mg base CX0 4 (He.ma K U "stamp_of") (fun vs H Q E => sp_ust K U C D (vs ++ []) H Q E) := FnOk.raw (ok_ust F_ustamp_of T TU F_is_key B_is_key g_is_key G_is_key z_len) B_ustamp_of .nil
  have G_places := ok_places F_unique_places T CN R_cut z_zip
  have G_taken := ok_taken (D := D) F_is_taken TU F_unique_places B_unique_places g_unique_places G_places z_any
  have G_wni := ok_wni F_why_not_inserted T TU UN RU_contains RU_stamp_of F_is_taken B_is_taken g_is_taken G_taken
  have G_wnu := ok_wnu F_why_not_updated T CN R_cut TU UN RU_row_of F_is_taken B_is_taken g_is_taken G_taken
  have G_why := ok_why F_why_not T CN R_is_row R_key_of TU UN RU_contains TF F_is_key B_is_key g_is_key G_is_key F_truth_of B_truth_of g_truth_of G_truth_of F_why_not_inserted B_why_not_inserted g_why_not_inserted G_wni F_why_not_updated B_why_not_updated g_why_not_updated G_wnu z_len z_dict z_zip
  have RU_write : FnR P w K mg base CX0 3 (He.ma K U "write") (fun vs H Q E => sp_write U C D (vs ++ []) H Q E) := FnOk.raw (ok_write F_uwrite TU F_unique_places B_unique_places g_unique_places G_places) B_uwrite .nil
  have RU_change : FnR P w K mg base (L2.CX P w) 25 (He.ma K U "change") (mChg U C D (He.ga K "InvalidChange")) := FnOk.raw (ok_change (fdX := (0 : Addr)) F_uchange T CN R_key_of TU UN XC B_cinit G_cinit F_why_not B_why_not g_why_not G_why RU_write) B_uchange .nil
  have GU_insert := ok_uinsert F_uinsert TU UN RU_change
  have GU_update := ok_uupdate F_uupdate TU UN RU_change
  have GU_delete := ok_udelete F_udelete TU UN RU_change
  have G_pen := ok_pen (P := P) (w := w) (mg := mg) (base := base) F_pen z_list
  have G_draw := ok_draw (P := P) (w := w) (mg := mg) (base := base) F_draw z_int z_len z_abs
  have G_some := ok_some F_some F_draw B_draw g_draw G_draw z_list z_len z_range z_tuple
  have G_region := ok_region F_region g_CF g_R CM CF F_draw B_draw g_draw G_draw R_between R_of RF_within RF_always RF_and RF_inv z_len
  have G_key := ok_key (P := P) (w := w) (mg := mg) (base := base) F_key z_tuple z_zip
  have G_row := ok_row F_row F_draw B_draw g_draw G_draw z_tuple
  have G_call := ok_call F_call TU UN XC XE GU_insert B_uinsert GU_update B_uupdate GU_delete B_udelete z_isinstance
  have G_shape := ok_shape F_shape F_draw B_draw g_draw G_draw F_some B_some g_some G_some z_range z_len z_int
  have G_word := ok_word (P := P) (w := w) (mg := mg) (base := base) F_word
  have G_steps_right := ok_right F_steps_right TU UN X_rows X_stamp G_rows B_urows G_stamp B_ustamp RU_stamp_of z_enumerate z_sorted z_list z_len z_tuple
  have G_made_anew := ok_anew F_made_anew TU RUI F_word B_word g_word G_word F_call B_call g_call G_call
  have G_taken_back := ok_back F_taken_back TU UN F_word B_word g_word G_word F_call B_call g_call G_call X_rows X_stamp G_rows B_urows G_stamp B_ustamp RU_len z_len
  exact ok_law F_law T TU UN F_pen B_pen g_pen G_pen F_draw B_draw g_draw G_draw F_shape B_shape g_shape G_shape F_region B_region g_region G_region F_row B_row g_row G_row F_key B_key g_key G_key F_call B_call g_call G_call F_steps_right B_steps_right g_steps_right G_steps_right F_made_anew B_made_anew g_made_anew G_made_anew F_taken_back B_taken_back g_taken_back G_taken_back G_of hb4 RUI X_rows X_stamp G_rows B_urows G_stamp B_ustamp z_range
end Spk
open PySem PySem.W PySem.Calls PyProof.Rows
theorem PySem.Challenge.cw_speaklast_k14_whole_steps_tell_made_rows_holds : PySem.Challenge.rw_speaklast_k14_whole_steps_tell_made_rows.Holds := by
  w_on; o_law
  refine HandSHeadRun.head_any (r := Spk.Rw) (q := view Spk.Rw.prog [52]) (H := Spk.hk) (ob := Spk.obT) (M := 6000) (loose := Spk.loose) (d := HandSHeadRun.topDef Spk.Rw.prog 52) (kwd := []) Spk.obT_eq
    (by kernel_rfl) (fun s => by kernel_rfl) Spk.runs (by kernel_rfl) (by kernel_rfl) (by kernel_rfl) (by rfl) (by first | assumption | decide +kernel) (by decide +kernel) ⟨rfl, rfl, rfl, rfl, rfl, by decide +kernel⟩ ?hw ?hc
  case hw => w_witness2
  case hc =>
    refine L2.walk_ofE (l := PySem.Challenge.rw_speaklast_k14_whole_steps_tell_made_rows) (n := 63) (k := 29) (x := "_law_script") (CX := L2.CX0) rfl (by decide) (by kernel_rfl) ⟨rfl, by decide, by decide⟩ ?F (fun _ _ _ _ z => z)
    intro w mg fa h Y G hmg0
    obtain ⟨K, KX, c⟩ := Y
    have hmg : mg ("law" : PySem.Str) = some (.ref fa) := by
      have e : (HandSHeadRun.topDef Spk.Rw.prog 52).name = ("law" : PySem.Str) := by kernel_rfl
      rw [← e]
      exact hmg0
    obtain ⟨fd, hb, hF⟩ := Spk.facts (P := (PySem.Challenge.rw_speaklast_k14_whole_steps_tell_made_rows).prog) (w := w) KX G hmg c
    exact ⟨K, fd, Spk.sp_law K, KX, hb, fun H a ns hl _ hS => ⟨a, ns, rfl, hS, hl, fun _ => rfl⟩, hF⟩

