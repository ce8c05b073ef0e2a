import PyProof.Rows.All
import Wide.All
import OpenK.AllK
import Wide.FinOn
import Lean
import PyProof.EqAt
import PyProof.EqKinds
import PyProof.TupleCall
import PyProof.ZipIter
import PyProof.Draws
import PyProof.TupleIter
import PySem.Value
import PyProof.NeKinds
import PyProof.ExcClass2
import PyProof.StationsW
import OpenK.KOwn
import KE.KIsAll
import PyProof.RulesAs
import PyProof.NsDelKeeps
import PyProof.PassesOwn
import PyProof.ExcArgsOwn
import PyProof.IsiH_list
import PyProof.EnumMake
import PyProof.EnumFor
import PyProof.WalksEnum
import PyProof.Rows.EnumRows
import PyProof.SumWalk
import PyProof.StrCalls
import PyProof.Rows.StrJoin2
import PyProof.WalkInts
import KE.KDictOf
import KE.KEqDict
import KE.KNest
import KE.KNestM
import PyProof.EqLayable
import PyProof.P3Eq
import PySem.Challenge.RW_keeper_k40_variables
set_option Elab.async false
set_option linter.all false
set_option maxRecDepth 100000
section
namespace L2
open PySem PySem.Spec PyProof.Rows
noncomputable def HB (base : Heap) (A : Around) : Prop := A.handled = none ∨ ∃ a oe vs, A.handled = some (.ref a) ∧ base.get? a = some oe ∧ oe.data = .fields vs ∧ vs[2]? = some .none
noncomputable def HBp (base : Heap) (pn : List (Addr × Obj)) (A : Around) : Prop := A.handled = none ∨ ∃ a oe vs, A.handled = some (.ref a) ∧ (base.get? a = some oe ∨ (a, oe) ∈ pn) ∧ oe.data = .fields vs ∧ vs[2]? = some .none
theorem HB.toP {base : Heap} {pn : List (Addr × Obj)} {A : Around} (h : HB base A) : HBp base pn A := by
  rcases h with h | ⟨a, oe, vs, e1, e2, e3⟩
  · exact .inl h
  · exact .inr ⟨a, oe, vs, e1, .inl e2, e3⟩
theorem ent_unchain : entryFor table "proto.unchain" = some Builtin.«proto.unchain» := entryFor_of_tree (by kernel_rfl)
section
variable {prog : Program} {w : World} {A : Around} {E : Value → Shared → Prop} {s : Shared} {base : Heap}
theorem HB.mono {h h' : Heap} (hb : HB h A) (hk : ∀ a o, A.handled = some (.ref a) → h.get? a = some o → h'.get? a = some o) : HB h' A := by
  rcases hb with hb | ⟨a, oe, vs, e1, e2, e3⟩
  · exact .inl hb
  · exact .inr ⟨a, oe, vs, e1, hk a oe e1 e2, e3⟩
theorem un_chain {n a : Addr} {oe : Obj} {vs : Array Value} {Q : Value → Shared → Prop} (he : s.heap.get? a = some oe) (hd : oe.data = .fields vs) (h2 : vs[2]? = some .none) (h : Q .none s) :
    wpAny (model prog w) A (runValue (.builtin "proto.unchain" ⟨[.ref n, .ref a, .ref a, .bool false], []⟩)) Q E s := by
  refine wpAny_runValue (codeAny_builtin ent_unchain ?_)
  show wpAny _ _ (field (.ref a) 2 >>= _) _ _ s
  refine wpAny_bind (wpAny_field he hd h2 ?_)
  rw [if_pos (show (Value.none == Value.none) = true by rfl)]
  exact wpAny_pure h
theorem stop_made {α : Type} {Q : α → Shared → Prop} (hb : HB s.heap A)
    (hE : ∀ h' e, (∀ b o, s.heap.get? b = some o → h'.get? b = some o) → (∃ o, h'.get? e = some o ∧ o.cls = .type "StopIteration") → E (.ref e) { s with heap := h' }) :
    wpAny (model prog w) A (newExc (.type "StopIteration") [] >>= fun e => (raiseNew e : Sem α)) Q E s := by
  refine wpAny_bind ?_
  simp only [newExc, newTuple]
  refine wpAny_bind (wpAny_newObj_type ?_ (by size_fits))
  refine wpAny_bind (m := firstArgMember _ _) (wpAny_of_eq (a := Value.none) (by first | rfl | (simp only [firstArgMember]; rfl)) ?_)
  refine wpAny_newObj_type ?_ (by size_fits)
  simp only [raiseNew]
  refine wpAny_bind (wpAny_handled ?_)
  rcases hb with hb | ⟨a, oe, vs, hb, e1, e2, e3⟩
  · rw [hb]
    refine wpAny_bind (wpAny_pure (wpAny_throw (hE _ _ (fun b o e => Heap.get?_push_of_some _ (Heap.get?_push_of_some _ e)) ⟨_, Heap.get?_push_size _ rfl, rfl⟩)))
  · rw [hb]
    have ea := e1
    have lt := Heap.lt_size ea
    have ne : a ≠ (s.heap.push { cls := .type "tuple", data := .seq #[] }).objs.size := by
      rw [Heap.size_push]
      exact Nat.ne_of_lt (Nat.lt_succ_of_lt lt)
    dsimp only
    rw [if_pos (by simpa using ne)]
    refine wpAny_bind (wpAny_holding (un_chain (Heap.get?_push_of_some _ (Heap.get?_push_of_some _ ea)) e2 e3 ?_))
    refine wpAny_bind ?_
    show wpAny (model prog w) A (setField (.ref _) 2 (.ref a)) _ _ _
    refine wpAny_setField (Heap.get?_push_size _ rfl) rfl (by simp; omega) (wpAny_throw (hE _ _ (fun b o e => ?_) ⟨_, Heap.get?_update_self _ (Heap.get?_push_size _ rfl) (Obj.isFreed_of_fields (Obj.data_mapFields rfl _)), Obj.cls_mapFields _ _⟩))
    rw [Heap.get?_update_other _ _ ?_]
    · exact Heap.get?_push_of_some _ (Heap.get?_push_of_some _ e)
    · have := Heap.lt_size e
      intro z
      rw [← z, Heap.size_push] at this
      exact Nat.not_succ_lt_self this
theorem is_stop {Q : Bool → Shared → Prop} {h' : Heap} {e : Addr} (he : ∃ o, h'.get? e = some o ∧ o.cls = .type "StopIteration") (h : Q true { s with heap := h' }) : wpAny (model prog w) A (isInstance (.ref e) (.type "StopIteration")) Q E { s with heap := h' } := by
  obtain ⟨o, ho, hc⟩ := he
  exact wpAny_isInstance (T := "StopIteration") (b := true) ⟨o, ho, hc⟩ isSubtype_stop h
theorem HB.upd {it : Addr} {f : Obj → Obj} (hb : HB s.heap A) (na : ∀ a, A.handled = some (.ref a) → a ≠ it) : HB (s.heap.update it f) A := hb.mono fun a o e1 e2 => (Heap.get?_update_other _ _ (Ne.symm (na a e1))).trans e2
theorem ext_upd {it : Addr} {f : Obj → Obj} {h' : Heap} (k : ∀ b o, (s.heap.update it f).get? b = some o → h'.get? b = some o) : Heap.ExtBut it s.heap h' := fun b o hb e => k b o ((Heap.get?_update_other _ _ (Ne.symm hb)).trans e)
theorem next_list_end {it l : Addr} {i : Nat} {items : Array Value} {Q : Option Value → Shared → Prop} (hb : HB s.heap A) (na : ∀ a, A.handled = some (.ref a) → a ≠ it) (hit : s.heap.IsListIter it l i) (hl : s.heap.IsList l items) (hx : items[i]? = none)
    (hQ : ∀ h', Heap.ExtBut it s.heap h' → Q none { s with heap := h' }) : wpAny (model prog w) A (pyNext (.ref it)) Q E s := by
  obtain ⟨o, ho, hc, hd⟩ := id hit
  obtain ⟨ol, hol, _, nl, hdl⟩ := hl
  unfold pyNext
  refine wpAny_bind (wpAny_attempt (wpAny_callSpecial?_slot (name := Str.ofString "__next__") hit.typeIs slot_listiter_next (wpAny_call_entry slot_listiter_next hit.typeIs entry_listiter_next ?_ (args_listiter_next _))))
  show wpAny (model prog w) _ (field (.ref it) 0 >>= _) _ _ s
  refine wpAny_bind (wpAny_field ho hd (x := .ref l) rfl ?_)
  show wpAny (model prog w) _ (if (Value.ref l == Value.none) = true then _ else _) _ _ s
  rw [if_neg (show ¬ (Value.ref l == Value.none) = true from Bool.false_ne_true)]
  show wpAny (model prog w) _ (field (.ref it) 1 >>= _) _ _ s
  refine wpAny_bind (wpAny_field ho hd (x := .int i 0) rfl ?_)
  show wpAny (model prog w) _ (seqItems? (.ref l) >>= _) _ _ s
  refine wpAny_bind (wpAny_seqItems hol hdl ?_)
  simp only [Int.toNat_natCast, hx]
  refine wpAny_bind (wpAny_rule (wpAny_bind (wpAny_setField ho hd (by simp) ?_)))
  exact stop_made (A := A.in1) (hb.upd na) fun h' e k he => wpAny_bind (is_stop he (wpAny_pure (hQ h' (ext_upd k))))
theorem next_tuple_end {it l : Addr} {i : Nat} {items : Array Value} {Q : Option Value → Shared → Prop} (hb : HB s.heap A) (na : ∀ a, A.handled = some (.ref a) → a ≠ it) (hit : s.heap.IsTupleIter it l i) (hl : s.heap.IsTuple l items) (hx : items[i]? = none)
    (hQ : ∀ h', Heap.ExtBut it s.heap h' → Q none { s with heap := h' }) : wpAny (model prog w) A (pyNext (.ref it)) Q E s := by
  obtain ⟨o, ho, hc, hd⟩ := id hit
  obtain ⟨ol, hol, _, nl, hdl⟩ := hl
  unfold pyNext
  refine wpAny_bind (wpAny_attempt (wpAny_callSpecial?_slot (name := Str.ofString "__next__") hit.typeIs F.slot_tuple_iterator_next (wpAny_call_entry F.slot_tuple_iterator_next hit.typeIs F.entry_tuple_iterator_next ?_ (F.args_tuple_iterator_next_1 _))))
  show wpAny (model prog w) _ (field (.ref it) 0 >>= _) _ _ s
  refine wpAny_bind (wpAny_field ho hd (x := .ref l) rfl ?_)
  show wpAny (model prog w) _ (if (Value.ref l == Value.none) = true then _ else _) _ _ s
  rw [if_neg (show ¬ (Value.ref l == Value.none) = true from Bool.false_ne_true)]
  show wpAny (model prog w) _ (field (.ref it) 1 >>= _) _ _ s
  refine wpAny_bind (wpAny_field ho hd (x := .int i 0) rfl ?_)
  show wpAny (model prog w) _ (seqItems? (.ref l) >>= _) _ _ s
  refine wpAny_bind (wpAny_seqItems hol hdl ?_)
  simp only [Int.toNat_natCast, hx]
  refine wpAny_bind (wpAny_rule (wpAny_bind (wpAny_setField ho hd (by simp) ?_)))
  exact stop_made (A := A.in1) (hb.upd na) fun h' e k he => wpAny_bind (is_stop he (wpAny_pure (hQ h' (ext_upd k))))
theorem next_range_end {it : Addr} {x left step : Int} {Q : Option Value → Shared → Prop} (hb : HB s.heap A) (hit : IsRangeIter s.heap it x left step) (hleft : left ≤ 0)
    (hQ : ∀ h', Heap.ExtBut it s.heap h' → Q none { s with heap := h' }) : wpAny (model prog w) A (pyNext (.ref it)) Q E s := by
  have hT : s.TypeIs (.ref it) "range_iterator" := ⟨_, hit, rfl⟩
  unfold pyNext
  refine wpAny_bind (wpAny_attempt (wpAny_callSpecial?_slot (name := Str.ofString "__next__") hT F.slot_range_iterator_next (wpAny_call_entry F.slot_range_iterator_next hT F.entry_range_iterator_next ?_ (F.args_range_iterator_next_1 _))))
  show wpAny (model prog w) _ (field (.ref it) 0 >>= _) _ _ s
  refine wpAny_bind (wpAny_field hit rfl (x := rawInt x) rfl ?_)
  show wpAny (model prog w) _ (field (.ref it) 1 >>= _) _ _ s
  refine wpAny_bind (wpAny_field hit rfl (x := rawInt left) rfl ?_)
  show wpAny (model prog w) _ (field (.ref it) 2 >>= _) _ _ s
  refine wpAny_bind (wpAny_field hit rfl (x := rawInt step) rfl ?_)
  show wpAny (model prog w) _ (if left ≤ 0 then _ else _) _ _ s
  rw [if_pos hleft]
  refine wpAny_bind (wpAny_rule ?_)
  refine wpAny_bind ?_
  exact stop_made (A := A.in1) hb fun h' e k he => wpAny_bind (is_stop he (wpAny_pure (hQ h' fun b o _ eb => k b o eb)))
theorem unpackH {t : Addr} {items : Array Value} {Q : List Value → Shared → Prop} (hb : HB s.heap A) (ht : s.heap.IsTuple t items)
    (hQ : ∀ h', Heap.ExtBut s.heap.objs.size s.heap h' → Q items.toList { s with heap := h' }) : wpAny (model prog w) A (unpackItems (.ref t) items.size none) Q E s := by
  have hlt : t ≠ s.heap.objs.size := by obtain ⟨o, ho, _⟩ := ht; exact Nat.ne_of_lt (Heap.lt_size ho)
  have lta : ∀ a, A.handled = some (.ref a) → a ≠ s.heap.objs.size := fun a ea => by
    rcases hb with hb | ⟨a', oe, vs, e1, e2, _⟩
    · rw [hb] at ea; cases ea
    · rw [e1] at ea; cases ea; exact Nat.ne_of_lt (Heap.lt_size e2)
  unfold unpackItems
  refine wpAny_bind ?_
  unfold notIterableAtAll
  refine wpAny_bind (wpAny_specialOf ht.typeIs F.slot_tuple_iter.lookup (wpAny_pure ?_))
  simp only [Bool.false_eq_true, if_false]
  refine wpAny_bind (wpAny_holding (wpAny_pyIter_tuple ht ?_))
  refine wpAny_bind (wpAny_holding (wpAny_draw_tuple hlt items.size 0 _ _ ⟨_, Heap.get?_push_size _ rfl, rfl, rfl⟩ (ht.push _) (by omega) fun h₁ hit₁ hs₁ => ?_))
  rw [show List.take items.size (List.drop 0 items.toList) = items.toList by rw [List.drop_zero]; exact List.take_of_length_le (by simp), if_neg (by simp)]
  have ht₁ : h₁.IsTuple t items := (ht.push _).extBut hs₁.extBut hlt
  have hb₁ : HB h₁ A := hb.mono fun a o ea eo => hs₁.extBut a o (lta a ea) (Heap.get?_push_of_some _ eo)
  refine wpAny_bind (wpAny_holding (next_tuple_end (s := { s with heap := h₁ }) hb₁ lta hit₁ ht₁ (by simp) fun h₂ he₂ => ?_))
  simp only [Option.isSome_none, Bool.false_eq_true, if_false]
  exact wpAny_pure (hQ h₂ fun b o hb e => he₂ b o hb (hs₁.extBut b o hb (Heap.get?_push_of_some _ e)))
theorem assignH {env : Env} {elts : List Expr} {x1} {pos : Pos} {t : Addr} {items : Array Value} {Q : Unit → Shared → Prop} (hb : HB s.heap A) (ht : s.heap.IsTuple t items)
    (hn : (assignEach elts env).length = items.size) (hstar : (assignEach elts env).findIdx? (·.1) = none)
    (h : ∀ h', Heap.ExtBut s.heap.objs.size s.heap h' → wpAny (model prog w) A (assignInOrder ((assignEach elts env).map (·.2)) items.toList) Q E { s with heap := h' }) : wpAny (model prog w) A (assign (.Tuple elts x1 pos) env (.ref t)) Q E s := by
  rw [arm_assign_Tuple]
  refine wpAny_bind (wpAny_standAt ?_)
  unfold unpack
  rw [hn, hstar]
  exact wpAny_bind (wpAny_holding (unpackH hb ht h))
end
theorem range_item {prog : Program} {w : World} {A : Around} {s : Shared} {Q : Option Value → Shared → Prop} {E : Value → Shared → Prop} {I : Addr} {a c : Int} {n i : Nat} (hi : i < n) (st : IsRangeIter s.heap I (a + (i : Nat) * c) ((n : Int) - (i : Nat)) c)
    (hQ : ∀ v h' tk, (∃ t, v = .int (a + i * c) t) → IsRangeIter h' I (a + ((i + 1 : Nat) : Int) * c) ((n : Int) - ((i + 1 : Nat) : Int)) c → (∀ b o, b ∉ [I] → s.heap.get? b = some o → h'.get? b = some o) → Q (some v) { s with heap := h', toks := tk }) :
    wpAny (model prog w) A (pyNext (.ref I)) Q E s := by
  refine wpAny_pyNext_range_item st (by omega) fun h' hit' hs' => hQ _ h' _ ⟨_, rfl⟩ ?_ fun b o hb e => hs'.extBut b o (fun h => hb (by simp [h])) e
  rw [show a + ((i + 1 : Nat) : Int) * c = a + (i : Int) * c + c by push_cast; rw [Int.add_mul, Int.one_mul, Int.add_assoc], show (n : Int) - ((i + 1 : Nat) : Int) = (n : Int) - (i : Int) - 1 by push_cast; omega]
  exact hit'
noncomputable def hAdr (A : Around) : List Addr := match A.handled with
  | some (.ref a) => [a]
  | _ => []
theorem mem_hAdr {A : Around} {d : Addr} (h : d ∈ hAdr A) : A.handled = some (.ref d) := by
  unfold hAdr at h
  split at h
  · rename_i a e
    rw [List.mem_singleton.mp h]
    exact e
  · cases h
theorem HB.frame {A : Around} {h h' : Heap} (hb : HB h A) (k : ∀ b ∈ hAdr A, ∀ o, h.get? b = some o → h'.get? b = some o) : HB h' A := hb.mono fun a o ea eo => k a (by unfold hAdr; rw [ea]; simp) o eo
theorem walks_list {prog : Program} {w : World} {A : Around} (I ax : Addr) (hne : ax ≠ I) (items : Array Value) (na : ∀ a, A.handled = some (.ref a) → a ≠ I) :
    Walks prog w A I (I :: ax :: hAdr A) [I] items.size (fun i v => items[i]? = some v) (fun i h => h.IsListIter I ax i ∧ h.IsList ax items ∧ HB h A) where
  sub := fun b hb => by simp at hb; simp [hb]
  frame := fun _ _ _ st hk => ⟨st.1.at fun o e => hk I (by simp) o e, st.2.1.at fun o e => hk ax (by simp) o e, st.2.2.frame fun b hb => hk b (by simp [hb])⟩
  item := fun i s Q E hi st hQ => by
    refine wpAny_pyNext_list_item st.1 st.2.1 (x := items[i]) (by simp [hi]) fun h' hit' hs' => ?_
    exact hQ _ h' s.toks (by simp [hi]) ⟨hit', st.2.1.extBut hs'.extBut hne, st.2.2.mono fun a o ea eo => hs'.extBut a o (na a ea) eo⟩ fun b o hb e => hs'.extBut b o (fun h => hb (by simp [h])) e
  done := fun s Q E st hQ => next_list_end st.2.2 na st.1 st.2.1 (by simp) fun h' he' => hQ h' s.toks fun b o hb e => he' b o (fun h => hb (by simp [h])) e
  self := fun _ _ _ _ st hQ => wpAny_pyIter_listiter st.1 hQ
end L2
end
section
namespace L2
open PySem PySem.Spec PyProof.Rows
noncomputable abbrev Key := Sum Int Str
noncomputable def keyIs : Key → Value → Bool
  | .inl k, v => Value.isInt k v
  | .inr x, v => Value.isStrOf x v
noncomputable def keyH (w : World) : Key → Int
  | .inl k => hashInt k
  | .inr x => hashStr w x
theorem keyIs_shape : ∀ {k : Key} {v : Value}, keyIs k v = true → (∃ i t, k = Sum.inl i ∧ v = Value.int i t) ∨ (∃ x t, k = Sum.inr x ∧ v = Value.str x t)
  | .inl i, v, h => by
    obtain ⟨t, e⟩ := Value.isInt_shape (k := i) (v := v) h
    exact .inl ⟨i, t, rfl, e⟩
  | .inr x, v, h => by
    obtain ⟨t, e⟩ := Value.isStrOf_shape (x := x) (v := v) h
    exact .inr ⟨x, t, rfl, e⟩
theorem key_ll (a b : Int) : decide ((Sum.inl a : Key) = Sum.inl b) = (a == b) := by
  by_cases e : a = b
  · subst e; simp
  · have h : ¬ (Sum.inl a : Key) = Sum.inl b := fun q => e (Sum.inl.inj q)
    rw [decide_eq_false h]
    exact (beq_eq_false_iff_ne.mpr e).symm
theorem key_rr (a b : Str) : decide ((Sum.inr a : Key) = Sum.inr b) = decide (a = b) := by
  by_cases e : a = b
  · subst e; simp
  · have h : ¬ (Sum.inr a : Key) = Sum.inr b := fun q => e (Sum.inr.inj q)
    rw [decide_eq_false h, decide_eq_false e]
theorem key_lr (a : Int) (b : Str) : decide ((Sum.inl a : Key) = Sum.inr b) = false := decide_eq_false (fun q => nomatch q)
theorem key_rl (a : Str) (b : Int) : decide ((Sum.inr a : Key) = Sum.inl b) = false := decide_eq_false (fun q => nomatch q)
noncomputable def mixKind (prog : Program) (w : World) : PySem.KeyKind prog w Key where
  is := keyIs
  hash := keyH w
  inj := fun v a b ha hb => by
    rcases keyIs_shape ha with ⟨i, t, rfl, rfl⟩ | ⟨x, t, rfl, rfl⟩
    · rcases keyIs_shape hb with ⟨j, u, rfl, e⟩ | ⟨y, u, rfl, e⟩
      · injection e with e1 _; rw [e1]
      · exact nomatch e
    · rcases keyIs_shape hb with ⟨j, u, rfl, e⟩ | ⟨y, u, rfl, e⟩
      · exact nomatch e
      · injection e with e1 _; rw [e1]
  byValue := fun k v h => by
    rcases keyIs_shape h with ⟨i, t, rfl, rfl⟩ | ⟨x, t, rfl, rfl⟩ <;> rfl
  pyHash := fun hv h => by
    rcases keyIs_shape hv with ⟨i, t, rfl, rfl⟩ | ⟨x, t, rfl, rfl⟩
    · exact wpAny_pyHash_int h
    · exact wpAny_pyHash_str h
  eqBool := fun hu hv h => by
    rcases keyIs_shape hu with ⟨i, t, rfl, rfl⟩ | ⟨x, t, rfl, rfl⟩
    · rcases keyIs_shape hv with ⟨j, u, rfl, rfl⟩ | ⟨y, u, rfl, rfl⟩
      · rw [key_ll] at h; exact wpAny_eqBool_int h
      · rw [key_lr] at h; exact SeqAt.EqAt.int_str i t y u _ _ _ _ h
    · rcases keyIs_shape hv with ⟨j, u, rfl, rfl⟩ | ⟨y, u, rfl, rfl⟩
      · rw [key_rl] at h; exact SeqAt.EqAt.str_int x t j u _ _ _ _ h
      · rw [key_rr] at h; exact wpAny_eqBool_str h
  «strs» := fun k x t v h => by
    rcases keyIs_shape h with ⟨i, u, rfl, e⟩ | ⟨y, u, rfl, e⟩
    · exact nomatch e
    · injection e with e1 _
      subst e1
      cases v <;> rfl
end L2
namespace L2
open PySem PySem.Spec PyProof.Rows
inductive V where
  | non | bl (b : Bool) | int (i : Int) | str (x : Str) | byt (b : Array UInt8) | flt (b : UInt64) | ref (a : Addr) | ty (n : String)
  deriving DecidableEq
noncomputable def RelV : V → Value → Prop
  | .non, u => u = Value.none
  | .bl b, u => u = Value.bool b
  | .int i, u => ∃ t, u = Value.int i t
  | .str x, u => ∃ t, u = Value.str x t
  | .byt b, u => ∃ t, u = Value.bytes b t
  | .flt b, u => ∃ t, u = Value.float b t
  | .ref a, u => u = Value.ref a
  | .ty n, u => u = Value.type n
noncomputable abbrev Vals : List V → List Value → Prop := Paired RelV
theorem Vals.length {xs : List V} {us : List Value} (r : Vals xs us) : xs.length = us.length := Paired.length r
theorem Vals.get : ∀ {xs : List V} {us : List Value} {i : Nat} {x : V}, Vals xs us → xs[i]? = some x → ∃ u, us[i]? = some u ∧ RelV x u
  | _, _, _, _, .nil, e => by simp at e
  | _, _, 0, _, .cons r _, e => by simp at e; subst e; exact ⟨_, rfl, r⟩
  | _, _, i + 1, x, .cons _ t, e => by
    obtain ⟨u, h1, h2⟩ := Vals.get (i := i) (x := x) t (by simpa using e)
    exact ⟨u, by simpa using h1, h2⟩
theorem Vals.append : ∀ {xs ys : List V} {us ws : List Value}, Vals xs us → Vals ys ws → Vals (xs ++ ys) (us ++ ws)
  | _, _, _, _, .nil, s => s
  | _, _, _, _, .cons r t, s => .cons r (Vals.append t s)
theorem Vals.take : ∀ {xs : List V} {us : List Value} (n : Nat), Vals xs us → Vals (xs.take n) (us.take n)
  | _, _, 0, _ => .nil
  | _, _, _ + 1, .nil => .nil
  | _, _, n + 1, .cons r t => .cons r (Vals.take n t)
theorem Vals.drop : ∀ {xs : List V} {us : List Value} (n : Nat), Vals xs us → Vals (xs.drop n) (us.drop n)
  | _, _, 0, r => r
  | _, _, _ + 1, .nil => .nil
  | _, _, n + 1, .cons _ t => Vals.drop n t
noncomputable def RelO : Option V → Option Value → Prop
  | some v, some u => RelV v u
  | none, none => True
  | _, _ => False
noncomputable def KV {κ : Type} : List (κ × V) → List (κ × Value) → Prop := Paired fun (p : κ × V) (q : κ × Value) => p.1 = q.1 ∧ RelV p.2 q.2
noncomputable def kV : Key → V
  | .inl i => .int i
  | .inr x => .str x
inductive TabS where
  | tab (q : Str) (ln cl : Value)
  | code (q : Str)
inductive HO where
  /-- a list -/
  | lst (xs : List V)
  /-- a tuple (never changes) -/
  | tup (xs : List V)
  /-- a dict whose keys are ints and texts; one whose keys are tuples of ints and texts (the empty one is both) -/
  | dK (kvs : List (Key × V)) | dT (kvs : List (List Key × V))
  /-- a set of ints: its members, its size -/
  | set (S : Int → Bool) (n : Nat)
  /-- an instance of the class at C, its dict at dx, its attributes -/
  | ins (C dx : Addr) (fs : List (Str × V))
  /-- the dict of the instance at x -/
  | own (x : Addr)
  /-- the dict of an exception -/
  | xd (fs : List (Str × V))
  /-- a bound method, f of x -/
  | met (f x : Addr)
  /-- a range object lo, lo + 1, .. below hi -/
  | rng (lo hi : Int)
  /-- a thing that is known to the object (the script; a dict while a loop walks it): read, never written while it is so -/
  | frz (o : Obj) (u : HO)
  /-- a code object's table -/
  | tbl (ps : TabS)
  /-- any other thing, by what is true of its one object (a def of one's own: SetO a S n := HO.ext fun h => ..) -/
  | ext (φ : Heap → Prop)
noncomputable abbrev Hp := Addr → Option HO
noncomputable def upd (H : Hp) (a : Addr) (o : HO) : Hp := fun b => if b = a then some o else H b
theorem upd_same {H : Hp} {a : Addr} {o : HO} : upd H a o a = some o := by unfold upd; rw [if_pos rfl]
theorem upd_ne {H : Hp} {a b : Addr} {o : HO} (h : b ≠ a) : upd H a o b = H b := by unfold upd; rw [if_neg h]
theorem ne_of {H : Hp} {a b : Addr} {o u : HO} (h : H a = some o) (h' : H b = some u) (d : o ≠ u) : a ≠ b := by
  intro e; subst e; rw [h] at h'; exact d (Option.some.inj h')
theorem ne_of_none {H : Hp} {a b : Addr} {o : HO} (h : H a = some o) (h' : H b = none) : a ≠ b := by
  intro e; subst e; rw [h] at h'; cases h'
section
variable (P : Program) (w : World)
noncomputable def ObjOk (H : Hp) (h : Heap) (a : Addr) : HO → Prop
  | .lst xs => xs.length ≤ sizeLine ∧ ∃ (its : List Value) (n : Nat), Vals xs its ∧ h.get? a = some { cls := .type "list", data := .seq its.toArray n }
  | .tup xs => xs.length ≤ sizeLine ∧ ∃ its : List Value, Vals xs its ∧ IsTup h a its.toArray
  | .dK kvs => kvs.length ≤ sizeLine ∧ (a == sysModules) = false ∧ ∃ vs, KV kvs vs ∧ h.DictOf (mixKind P w) a vs
  | .dT kvs => kvs.length ≤ sizeLine ∧ (a == sysModules) = false ∧ ∃ xs : List (List Key × Addr × Value),
      Paired (fun (p : List Key × V) (q : List Key × Addr × Value) => p.1 = q.1 ∧ H q.2.1 = some (.tup (p.1.map kV)) ∧ RelV p.2 q.2.2) kvs xs ∧
      ∃ o es ep, h.get? a = some o ∧ o.ExactDict ∧ o.data = .dict es ep ∧ es.toList = xs.map (entryOfKey (tupleKind (mixKind P w))) ∧ (xs.map (·.1)).Nodup
  | .set S n => h.SetOf (intKind P w) a S n
  | .ins C dx fs => H dx = some (.own a) ∧ fs.length ≤ 1000 ∧ dx ≠ a ∧ h.get? a = some (PySem.W.instObj C dx) ∧
      ∃ mA, h.Ns1 dx mA ∧ (∀ f, RelO (fs.lookup f) (mA f)) ∧ PySem.Within mA (fs.map (·.1))
  | .own _ => ∃ o, h.get? a = some o
  | .xd fs => ∃ mA, h.Ns1 a mA ∧ ∀ f, RelO (fs.lookup f) (mA f)
  | .rng lo hi => ∃ t u v, h.get? a = some { cls := .type "range", data := .fields #[.int lo t, .int hi u, .int 1 v] }
  | .frz o u => h.get? a = some o ∧ ObjOk H h a u
  | .tbl (.tab q ln cl) => h.get? a = some { cls := .none, data := .fields #[] } ∨ ∃ c, h.get? a = some { cls := .none, data := .fields #[ln, cl, .ref c] } ∧ H c = some (.tbl (.code q))
  | .tbl (.code q) => h.CodeRec (.ref a) q
  | .met f x => h.get? a = some (PySem.W.methodObj (.ref f) (.ref x))
  | .ext φ => φ h ∧ (∃ o, h.get? a = some o) ∧ ∀ h1 h2 : Heap, φ h1 → (∀ o, h1.get? a = some o → h2.get? a = some o) → φ h2
noncomputable def HOk (H : Hp) (h : Heap) : Prop := ∀ a o, H a = some o → ObjOk P w H h a o
end
section
variable {P : Program} {w : World} {H H' : Hp} {h h' : Heap} {a : Addr} {o : HO}
theorem ObjOk.lt (x : ObjOk P w H h a o) : a < h.objs.size := by
  cases o with
  | lst xs => obtain ⟨_, _, _, _, e⟩ := x; exact Heap.lt_size e
  | tup xs => obtain ⟨_, _, _, p⟩ := x; exact p.lt
  | dK kvs => obtain ⟨_, _, _, _, o, _, _, e, _⟩ := x; exact Heap.lt_size e
  | dT kvs => obtain ⟨_, _, _, _, o, _, _, e, _⟩ := x; exact Heap.lt_size e
  | set S n => obtain ⟨o, _, _, _, e, _⟩ := x; exact Heap.lt_size e
  | ins C dx fs => obtain ⟨_, _, _, e, _⟩ := x; exact Heap.lt_size e
  | own y => obtain ⟨_, e⟩ := x; exact Heap.lt_size e
  | xd fs => obtain ⟨_, ⟨_, _, _, e, _⟩, _⟩ := x; exact Heap.lt_size e
  | rng lo hi => obtain ⟨_, _, _, e⟩ := x; exact Heap.lt_size e
  | frz ob u => obtain ⟨e, _⟩ := x; exact Heap.lt_size e
  | tbl ps => cases ps with
    | tab q ln cl => rcases x with e | ⟨c, e, _⟩ <;> exact Heap.lt_size e
    | code q => obtain ⟨c, o, vs, t, e1, e2, _⟩ := x; cases e1; exact Heap.lt_size e2
  | met f y => exact Heap.lt_size (show h.get? a = some _ from x)
  | ext φ => obtain ⟨_, ⟨_, e⟩, _⟩ := x; exact Heap.lt_size e
theorem Paired.mapP {α β : Type} {F G : α → β → Prop} : ∀ {l₁ : List α} {l₂ : List β}, Paired F l₁ l₂ → (∀ a b, F a b → G a b) → Paired G l₁ l₂
  | _, _, .nil, _ => .nil
  | _, _, .cons r t, f => .cons (f _ _ r) (Paired.mapP t f)
noncomputable def Fix : HO → Prop
  | .tup _ => True
  | .tbl _ => True
  | _ => False
noncomputable abbrev FixO := { u : HO // Fix u }
theorem ObjOk.stay (x : ObjOk P w H h a o) (k : ∀ b u, (b = a ∨ H b = some (.own a)) → h.get? b = some u → h'.get? b = some u)
    (ho : ∀ b, H b = some (.own a) → H' b = some (.own a)) (ht : ∀ (b : Addr) (u : FixO), H b = some u.1 → H' b = some u.1) : ObjOk P w H' h' a o := by
  induction o with
  | lst xs => obtain ⟨z, its, n, r, e⟩ := x; exact ⟨z, its, n, r, k _ _ (.inl rfl) e⟩
  | tup xs => obtain ⟨z, its, r, ob, e, c⟩ := x; exact ⟨z, its, r, ob, k _ _ (.inl rfl) e, c⟩
  | dK kvs => obtain ⟨z, y, vs, r, ob, es, ep, e, c⟩ := x; exact ⟨z, y, vs, r, ob, es, ep, k _ _ (.inl rfl) e, c⟩
  | dT kvs =>
    obtain ⟨z, y, xs, r, ob, es, ep, e, c⟩ := x
    exact ⟨z, y, xs, Paired.mapP r fun p q z => ⟨z.1, ht _ ⟨.tup _, trivial⟩ z.2.1, z.2.2⟩, ob, es, ep, k _ _ (.inl rfl) e, c⟩
  | set S n => obtain ⟨ob, es, ep, t, e, c⟩ := x; exact ⟨ob, es, ep, t, k _ _ (.inl rfl) e, c⟩
  | ins C dx fs =>
    obtain ⟨d, z, ne, e, mA, ⟨od, es, ep, e2, c⟩, r⟩ := x
    exact ⟨ho _ d, z, ne, k _ _ (.inl rfl) e, mA, ⟨od, es, ep, k _ _ (.inr d) e2, c⟩, r⟩
  | own y => obtain ⟨ob, e⟩ := x; exact ⟨ob, k _ _ (.inl rfl) e⟩
  | xd fs => obtain ⟨mA, ⟨od, es, ep, e, c⟩, r⟩ := x; exact ⟨mA, ⟨od, es, ep, k _ _ (.inl rfl) e, c⟩, r⟩
  | rng lo hi => obtain ⟨t, u, v, e⟩ := x; exact ⟨t, u, v, k _ _ (.inl rfl) e⟩
  | frz ob u ih => obtain ⟨e, q⟩ := x; exact ⟨k _ _ (.inl rfl) e, ih q⟩
  | tbl ps => cases ps with
    | tab q ln cl =>
      rcases x with e | ⟨c, e, r⟩
      · exact .inl (k a _ (.inl rfl) e)
      · exact .inr ⟨c, k a _ (.inl rfl) e, ht c ⟨.tbl (.code q), trivial⟩ r⟩
    | code q =>
      obtain ⟨c, o, vs, t, e1, e2, e3⟩ := x
      cases e1
      exact ⟨_, o, vs, t, rfl, k a _ (.inl rfl) e2, e3⟩
  | met f y =>
    have e : h.get? a = some (PySem.W.methodObj (.ref f) (.ref y)) := x
    show h'.get? a = some (PySem.W.methodObj (.ref f) (.ref y))
    exact k a _ (.inl rfl) e
  | ext φ => obtain ⟨p, ⟨o, e⟩, st⟩ := x; exact ⟨st _ _ p fun o q => k _ _ (.inl rfl) q, ⟨o, k _ _ (.inl rfl) e⟩, st⟩
theorem HOk.lt (x : HOk P w H h) (e : H a = some o) : a < h.objs.size := (x a o e).lt
theorem HOk.fresh (x : HOk P w H h) (e : h.objs.size ≤ a) : H a = none := by
  cases q : H a with
  | none => rfl
  | some u => exact absurd (Nat.lt_of_lt_of_le (x.lt q) e) (Nat.lt_irrefl _)
theorem HOk.kept (x : HOk P w H h) (k : ∀ b u, h.get? b = some u → h'.get? b = some u) : HOk P w H h' := fun a o e =>
  (x a o e).stay (fun b u _ q => k b u q) (fun _ q => q) fun _ _ q => q
theorem HOk.laid (x : HOk P w H h) (k : ∀ b u, h.get? b = some u → h'.get? b = some u) (hp : h.objs.size ≤ a) (new : ObjOk P w (upd H a o) h' a o) : HOk P w (upd H a o) h' := fun b u e => by
  have hn := x.fresh hp
  by_cases hb : b = a
  · subst hb; rw [upd_same] at e; cases e; exact new
  · rw [upd_ne hb] at e
    exact (x b u e).stay (fun c v _ q => k c v q) (fun c q => by rw [upd_ne (ne_of_none q hn)]; exact q) fun c xs q => by rw [upd_ne (ne_of_none q hn)]; exact q
end
noncomputable def Rd (H : Hp) (a : Addr) (u : HO) : Prop := H a = some u ∨ ∃ o, H a = some (.frz o u)
theorem Rd.ok {P : Program} {w : World} {H : Hp} {h : Heap} {a : Addr} {u : HO} (r : Rd H a u) (x : HOk P w H h) : ObjOk P w H h a u := by
  rcases r with r | ⟨o, r⟩
  · exact x a u r
  · obtain ⟨_, q⟩ := x a _ r
    exact q
noncomputable def Mut : Option HO → Prop
  | some (.lst _) => True
  | some (.dK _) => True
  | some (.dT _) => True
  | some (.set _ _) => True
  | some (.ins _ _ _) => True
  | some (.ext _) => True
  | _ => False
section
variable {P : Program} {w : World} {H : Hp} {h h' : Heap} {x e : Addr} {o' : HO}
theorem HOk.write (ok : HOk P w H h) (mu : Mut (H x)) (he : e = x ∨ H e = some (.own x)) (k : ∀ b u, b ≠ e → h.get? b = some u → h'.get? b = some u) (heo : ∃ u, h'.get? e = some u)
    (new : ObjOk P w (upd H x o') h' x o') : HOk P w (upd H x o') h' := fun b u q => by
  have nown : ∀ c y, H c = some (.own y) → c ≠ x := fun c y r z => by subst z; rw [r] at mu; exact mu
  have ntup : ∀ (c : Addr) (u : FixO), H c = some u.1 → c ≠ x := fun c ⟨u, f⟩ r z => by subst z; rw [show H c = some u from r] at mu; cases u <;> first | exact mu | exact f
  by_cases hb : b = x
  · subst hb; rw [upd_same] at q; cases q; exact new
  · rw [upd_ne hb] at q
    by_cases hbe : b = e
    · have q' : H b = some (.own x) := by
        rcases he with z | z
        · exact absurd (hbe.trans z) hb
        · rw [hbe]; exact z
      rw [q] at q'; cases q'
      obtain ⟨v, hv⟩ := heo
      exact ⟨v, by rw [hbe]; exact hv⟩
    · refine (ok b u q).stay (fun c v hc r => k c v ?_ r) (fun c r => by rw [upd_ne (nown c b r)]; exact r) fun c xs r => by rw [upd_ne (ntup c xs r)]; exact r
      rcases hc with rfl | hc
      · exact hbe
      · rintro rfl
        rcases he with z | z
        · exact nown c b hc z
        · rw [hc] at z; cases z; exact hb rfl
end
structure Un (fs ex : List Addr) (H H' : Hp) (h h' : Heap) : Prop where
  keep : ∀ b o, h.get? b = some o → H b = none → b ∉ fs → b ∉ ex → h'.get? b = some o
  slot : ∀ b o, h.get? b = some o → H b = none → b ∈ fs → b ∉ ex → ∃ sl, h'.get? b = some { o with slots := sl }
  free : ∀ b o, h.get? b = some o → H b = none → b ∉ ex → H' b = none
  there : ∀ b o, h.get? b = some o → b ∉ ex → ∃ o', h'.get? b = some o'
  tups : ∀ b xs, H b = some (.tup xs) → H' b = some (.tup xs)
  frzs : ∀ b o u, H b = some (.frz o u) → H' b = some (.frz o u)
  tbls : ∀ b ps, H b = some (.tbl ps) → H' b = some (.tbl ps)
section
variable {fs fs' ex ex' : List Addr} {H H1 H2 : Hp} {h h1 h2 h' : Heap} {a x e : Addr} {o : HO}
theorem Un.any (u : Un fs ex H H1 h h1) {b : Addr} {ob : Obj} (q : h.get? b = some ob) (n : H b = none) (hx : b ∉ ex) : ∃ sl, h1.get? b = some { ob with slots := sl } := by
  by_cases hb : b ∈ fs
  · exact u.slot b ob q n hb hx
  · exact ⟨ob.slots, u.keep b ob q n hb hx⟩
theorem Un.kept (k : ∀ b u, h.get? b = some u → h'.get? b = some u) : Un fs ex H H h h' :=
  ⟨fun b ob q _ _ _ => k b ob q, fun b ob q _ _ _ => ⟨ob.slots, k b ob q⟩, fun _ _ _ n _ => n, fun b ob q _ => ⟨ob, k b ob q⟩, fun _ _ q => q, fun _ _ _ q => q, fun _ ps q => (by rw [q])⟩
theorem Un.refl : Un fs ex H H h h := Un.kept fun _ _ q => q
theorem Un.laid (k : ∀ b u, h.get? b = some u → h'.get? b = some u) (hp : h.objs.size ≤ a) (hn : H a = none) : Un fs ex H (upd H a o) h h' where
  keep := fun b u q _ _ _ => k b u q
  slot := fun b u q _ _ _ => ⟨u.slots, k b u q⟩
  free := fun b u q n _ => by rw [upd_ne (Nat.ne_of_lt (Nat.lt_of_lt_of_le (Heap.lt_size q) hp))]; exact n
  there := fun b u q _ => ⟨u, k b u q⟩
  tups := fun b xs q => by rw [upd_ne (ne_of_none q hn)]; exact q
  frzs := fun b u xs q => by rw [upd_ne (ne_of_none q hn)]; exact q
  tbls := fun b ps q => (by rw [upd_ne (ne_of_none q hn), q])
theorem Un.write (mu : Mut (H x)) (he : e = x ∨ H e = some (.own x)) (k : ∀ b u, b ≠ e → h.get? b = some u → h'.get? b = some u) (heo : ∃ u, h'.get? e = some u) : Un fs ex H (upd H x o) h h' := by
  have hx : ∀ b, H b = none → b ≠ x := fun b n z => by subst z; rw [n] at mu; exact mu
  have hb : ∀ b, H b = none → b ≠ e := fun b n z => by
    subst z
    rcases he with r | r
    · exact hx b n r
    · rw [n] at r; cases r
  have hm : ∀ b u, H b = some u → ¬ Mut (some u) → b ≠ x := fun b u q nm z => by subst z; rw [q] at mu; exact nm mu
  refine ⟨fun b u q n _ _ => k b u (hb b n) q, fun b u q n _ _ => ⟨u.slots, k b u (hb b n) q⟩, fun b u q n _ => by rw [upd_ne (hx b n)]; exact n, fun b u q _ => ?_,
    fun b xs q => by rw [upd_ne (hm b _ q fun z => z)]; exact q, fun b u xs q => by rw [upd_ne (hm b _ q fun z => z)]; exact q, fun b ps q => (by rw [upd_ne (hm b _ q fun z => z), q])⟩
  by_cases hbe : b = e
  · subst hbe; exact heo
  · exact ⟨u, k b u hbe q⟩
end
noncomputable def trk (h : Heap) (H : Hp) : List Addr := (List.range h.objs.size).filter fun a => (H a).isSome
noncomputable def hidT (h : Heap) (H : Hp) : Heap := PySem.W.hideAll h (trk h H)
theorem hidT_size (h : Heap) (H : Hp) : (hidT h H).objs.size = h.objs.size := PySem.W.hideAll_size _ _
theorem hidT_get {h : Heap} {H : Hp} {b : Addr} {o : Obj} (e : h.get? b = some o) (n : H b = none) : (hidT h H).get? b = some o :=
  PySem.W.hideAll_get _ e fun hm => by
    have q : (H b).isSome = true := (List.mem_filter.mp hm).2
    rw [n] at q; simp at q
theorem of_hidT {h : Heap} {H : Hp} {b : Addr} {o : Obj} (e : (hidT h H).get? b = some o) : h.get? b = some o ∧ H b = none := by
  have e' : h.get? b = some o := PySem.W.of_hideAll (trk h H) e
  refine ⟨e', ?_⟩
  cases q : H b with
  | none => rfl
  | some x =>
    have hm : b ∈ trk h H := List.mem_filter.mpr ⟨List.mem_range.mpr (Heap.lt_size e'), by simp [q]⟩
    have z : (hidT h H).get? b = none := PySem.W.hideAll_none (trk h H) hm
    rw [z] at e; cases e
noncomputable def allNews (g h : Heap) (L : Addr) : List (Addr × Obj) := (List.range h.objs.size).filterMap fun a => if a = L ∨ (g.get? a).isSome = true then none else (h.get? a).map fun o => (a, o)
noncomputable def rest (g h : Heap) (L d : Addr) : List (Addr × Obj) := (allNews g h L).filter fun p => decide (p.1 ≠ d)
end L2
namespace L2
open PySem PySem.Spec PyProof.Rows
noncomputable def BmK (mg : Str → Option Value) (h : Heap) : Prop := ∃ bm ob, mg "__builtins__" = some (.ref bm) ∧ bm ≠ builtinsNs ∧ h.get? bm = some ob ∧ ob.cls = .type "module" ∧ ob.dict = some builtinsNs ∧ ob.data = .plain
theorem BmK.keeps {mg : Str → Option Value} {h h' : Heap} (x : BmK mg h) (k : ∀ b o, h.get? b = some o → h'.get? b = some o) : BmK mg h' := let ⟨bm, ob, a, b, c, d⟩ := x; ⟨bm, ob, a, b, k _ _ c, d⟩
structure Mod (K : PySem.W.Frag) (mg : Str → Option Value) (base : Heap) : Prop where
  kin : K.In base
  glob : base.Ns mainGlobals mg
  blt : ∃ mb, base.Ns builtinsNs mb ∧ ∀ x : Str, x ≠ "__name__" → mb x = bootBuiltins x
  nolimit : base.NoLimit
  bm : BmK mg base
structure Cx where
  prog : Program
  w : World
  K : PySem.W.Frag
  mg : Str → Option Value
  base : Heap
  A : Around
  N : List Str
  s₀ : Shared
  H₀ : Hp
  env : Env
  outer : List Env
  stack : List Env
  ex : List Addr
  fn : Str → Bool
  calm : Bool
  pn : List (Addr × Obj)
  xe : Value → Shared → Prop
noncomputable def frs (l : List Env) : List Addr := l.filterMap (·.frame)
noncomputable abbrev Cx.fs (X : Cx) : List Addr := frs X.outer
noncomputable def Vis (sc : Scope) (x : Str) : Prop := sc.names.lookup x = some .local ∨ sc.names.lookup x = some .cell ∨ sc.names.lookup x = some .free
noncomputable def Loc (sc : Scope) (x : Str) : Prop := sc.names.lookup x = some .local ∨ sc.names.lookup x = some .cell
noncomputable def Look (env : Env) (h : Heap) (m : Str → Option Value) (x : Str) (u : Value) : Prop :=
  (env.kindOf x = some .local ∧ m x = some u) ∨ ((env.kindOf x = some .cell ∨ env.kindOf x = some .free) ∧ ∃ c, env.cells.lookup x = some c ∧ h.IsCell c (some u))
structure Cx.Ok (X : Cx) : Prop where
  mod : Mod X.K X.mg X.base
  kind : X.env.scope.kind = .function
  glob : X.env.globals = mainGlobals
  blt : X.env.builtins = builtinsNs
  above : X.s₀.heap.objs.size ≤ X.env.locals
  inj : ∀ x y c, X.env.cells.lookup x = some c → X.env.cells.lookup y = some c → x = y
  has : ∀ x, (X.env.kindOf x = some .cell ∨ X.env.kindOf x = some .free) → ∃ c, X.env.cells.lookup x = some c
  cab : ∀ x c, X.fn x = true → X.env.cells.lookup x = some c → X.s₀.heap.objs.size ≤ c
  hd : X.calm = true → HBp X.base X.pn X.A
  frames : X.A.frames = some X.stack
  stk : X.stack = X.outer ∨ (X.stack = X.env :: X.outer ∧ X.env.frame = some X.env.locals)
  exf : ∀ b ∈ X.ex, b ≠ X.env.locals ∧ ∀ x c, X.env.cells.lookup x = some c → c ≠ b
  bs : ∀ b o, X.base.get? b = some o → X.s₀.heap.get? b = some o ∧ X.H₀ b = none
  bsz : X.base.objs.size ≤ X.s₀.heap.objs.size
  noex : ∀ b o, X.base.get? b = some o → b ∉ X.ex
  exfs : ∀ b ∈ X.ex, b ∉ X.fs
  funs : X.s₀.heap.FunFrames X.base X.outer
  frf : ∀ b ∈ X.fs, X.H₀ b = none
structure Inv (X : Cx) (pins : List (Addr × Obj)) (σ : List (Option V)) (H : Hp) (s : Shared) : Prop where
  ok : X.Ok
  os : s.os = X.s₀.os
  bare : AllBare s.gens
  base : Un X.fs X.ex X.H₀ H X.s₀.heap s.heap
  loc : ∃ m, s.heap.Ns X.env.locals m ∧ ∀ (i : Nat) (x : Str) (v : V), X.N[i]? = some x → σ[i]? = some (some v) → Vis X.env.scope x → ∃ u, RelV v u ∧ Look X.env s.heap m x u
  cell : ∀ x c, X.env.cells.lookup x = some c → ∃ v, s.heap.IsCell c v
  free : H X.env.locals = none
  freeC : ∀ x c, X.env.cells.lookup x = some c → H c = none
  pin : ∀ p ∈ X.pn ++ pins, s.heap.get? p.1 = some p.2 ∧ H p.1 = none ∧ p.1 ≠ X.env.locals ∧ p.1 ∉ X.fs ∧ ∀ v, p.2.data ≠ .cell v
  hok : HOk X.prog X.w H s.heap
  len : σ.length = X.N.length
section
variable {X : Cx} {pins : List (Addr × Obj)} {σ : List (Option V)} {H H' : Hp} {s : Shared} {h' : Heap}
theorem Cx.Ok.nofr (ok : X.Ok) {b : Addr} {o : Obj} (e : X.base.get? b = some o) : b ∉ X.fs := fun hb => by
  have := (ok.funs.mem hb).1
  rw [e] at this; cases this
theorem Inv.bs (I : Inv X pins σ H s) : ∀ b o, X.base.get? b = some o → s.heap.get? b = some o ∧ H b = none := fun b o e =>
  ⟨I.base.keep b o (I.ok.bs b o e).1 (I.ok.bs b o e).2 (I.ok.nofr e) (I.ok.noex b o e), I.base.free b o (I.ok.bs b o e).1 (I.ok.bs b o e).2 (I.ok.noex b o e)⟩
theorem Inv.bk (I : Inv X pins σ H s) : ∀ b o, X.base.get? b = some o → s.heap.get? b = some o := fun b o e => (I.bs b o e).1
theorem Inv.mod (I : Inv X pins σ H s) : Mod X.K X.mg X.base := I.ok.mod
theorem Inv.hb (I : Inv X pins σ H s) (hc : X.calm = true) : HB s.heap X.A := by
  rcases I.ok.hd hc with h | ⟨a, oe, vs, e1, e2, e3⟩
  · exact .inl h
  · exact .inr ⟨a, oe, vs, e1, e2.elim (I.bk a oe) fun m => (I.pin (a, oe) (List.mem_append_left _ m)).1, e3⟩
theorem Inv.hna (I : Inv X pins σ H s) (hc : X.calm = true) {it : Addr} (f3 : it ∈ X.ex ∨ X.s₀.heap.objs.size ≤ it) (f5 : ∀ p ∈ X.pn ++ pins, p.1 ≠ it) : ∀ a, X.A.handled = some (.ref a) → a ≠ it := fun a ea z => by
  subst z
  rcases I.ok.hd hc with h | ⟨b, oe, vs, e1, e2, e3⟩
  · rw [h] at ea; cases ea
  · rw [e1] at ea
    cases ea
    rcases e2 with e2 | e2
    · rcases f3 with z | z
      · exact I.ok.noex _ _ e2 z
      · exact absurd (Nat.lt_of_lt_of_le (Heap.lt_size e2) I.ok.bsz) (Nat.not_lt.mpr z)
    · exact f5 _ (List.mem_append_left _ e2) rfl
theorem Inv.kIn (I : Inv X pins σ H s) : X.K.In s.heap := I.ok.mod.kin.keeps I.bk
theorem Inv.fr (I : Inv X pins σ H s) : ∃ m, Fr X.base X.env.locals s.heap m :=
  let ⟨m, hn, _⟩ := I.loc
  ⟨m, hn, I.bk, Nat.le_trans I.ok.bsz I.ok.above⟩
theorem Inv.lt (I : Inv X pins σ H s) : X.env.locals < s.heap.objs.size := let ⟨_, hn, _⟩ := I.loc; hn.lt
theorem Inv.sz (I : Inv X pins σ H s) : X.s₀.heap.objs.size ≤ s.heap.objs.size := Nat.le_trans I.ok.above (Nat.le_of_lt I.lt)
theorem Inv.nofs (I : Inv X pins σ H s) {a : Addr} (h : s.heap.objs.size ≤ a) : a ∉ X.fs := fun hb => by
  obtain ⟨_, o, ho, _⟩ := I.ok.funs.mem hb
  exact absurd (Nat.lt_of_lt_of_le (Heap.lt_size ho) (Nat.le_trans I.sz h)) (Nat.lt_irrefl _)
theorem Inv.cne (I : Inv X pins σ H s) : ∀ x c, X.env.cells.lookup x = some c → c ≠ X.env.locals := fun x c e z => by
  obtain ⟨v, o, ho, hd⟩ := I.cell x c e
  obtain ⟨m, ⟨o', es, ep, ho', hd', _⟩, _⟩ := I.loc
  rw [z, ho'] at ho; cases ho; rw [hd'] at hd; cases hd
theorem Inv.funs (I : Inv X pins σ H s) : s.heap.FunFrames X.base X.outer := by
  have all : ∀ (l : List Env), (∀ b ∈ frs l, b ∈ X.fs) → X.s₀.heap.FunFrames X.base l → s.heap.FunFrames X.base l := by
    intro l
    induction l with
    | nil => intro _ _; trivial
    | cons env r ih =>
      intro hs hl
      obtain ⟨hk, ⟨L, o, hf, hn, ho, hd⟩, hr⟩ := hl
      have hL : L ∈ X.fs := hs L (by unfold frs; rw [List.filterMap_cons, hf]; exact List.mem_cons_self)
      obtain ⟨sl, e⟩ := I.base.slot L o ho (I.ok.frf L hL) hL fun z => I.ok.exfs L z hL
      exact ⟨hk, ⟨L, _, hf, hn, e, hd⟩, ih (fun b hb => hs b (by unfold frs; rw [List.filterMap_cons, hf]; exact List.mem_cons_of_mem _ hb)) hr⟩
  exact all X.outer (fun _ hb => hb) I.ok.funs
theorem Inv.stack (I : Inv X pins σ H s) : s.heap.FunFrames X.base X.stack := by
  rcases I.ok.stk with e | ⟨e, hf⟩
  · rw [e]; exact I.funs
  · rw [e]
    obtain ⟨m, hn, _⟩ := I.loc
    refine .cons (by rw [I.ok.kind]; decide) hf hn ?_ I.funs
    exact Heap.get?_none_of_le (Nat.le_trans I.ok.bsz I.ok.above)
theorem Inv.stkSub (I : Inv X pins σ H s) : ∀ b ∈ frs X.stack, b ∈ X.env.locals :: X.fs := fun b hb => by
  rcases I.ok.stk with e | ⟨e, hf⟩
  · rw [e] at hb; exact List.mem_cons_of_mem _ hb
  · rw [e] at hb
    unfold frs at hb
    rw [List.filterMap_cons, hf] at hb
    exact hb
theorem Inv.stkFree (I : Inv X pins σ H s) : ∀ b ∈ frs X.stack, H b = none := fun b hb => by
  rcases List.mem_cons.mp (I.stkSub b hb) with e | hb
  · rw [e]; exact I.free
  · obtain ⟨_, o, ho, _⟩ := I.ok.funs.mem hb
    exact I.base.free b o ho (I.ok.frf b hb) fun z => I.ok.exfs b z hb
theorem Inv.step {g' : Array GenState} {t' : Nat} {d' : Drawn} {ch : List Addr} (I : Inv X pins σ H s)
    (hch : ∀ b ∈ ch, (b ∈ X.ex ∨ X.s₀.heap.objs.size ≤ b) ∧ b ≠ X.env.locals ∧ (∀ x c, X.env.cells.lookup x = some c → c ≠ b) ∧ ∀ p ∈ X.pn ++ pins, p.1 ≠ b)
    (keep : ∀ b o, b ≠ X.env.locals → b ∉ X.fs → b ∉ ch → s.heap.get? b = some o → H b = none → h'.get? b = some o)
    (slot : ∀ b o, b ≠ X.env.locals → b ∈ X.fs → b ∉ ch → s.heap.get? b = some o → H b = none → ∃ sl, h'.get? b = some { o with slots := sl }) (free : ∀ b o, b ∉ ch → s.heap.get? b = some o → H b = none → H' b = none)
    (there : ∀ b o, b ∉ ch → s.heap.get? b = some o → ∃ o', h'.get? b = some o')
    (tups : ∀ b xs, H b = some (.tup xs) → H' b = some (.tup xs)) (frzs : ∀ b o u, H b = some (.frz o u) → H' b = some (.frz o u)) (tbls : ∀ b ps, H b = some (.tbl ps) → H' b = some (.tbl ps))
    (ns : ∀ m, s.heap.Ns X.env.locals m → h'.Ns X.env.locals m) (hok : HOk X.prog X.w H' h') (hg : AllBare g') :
    Inv X pins σ H' { s with heap := h', gens := g', drawn := d', toks := t' } := by
  have neL : ∀ b o, X.s₀.heap.get? b = some o → b ≠ X.env.locals := fun b o e => Nat.ne_of_lt (Nat.lt_of_lt_of_le (Heap.lt_size e) I.ok.above)
  have neC : ∀ b o, X.s₀.heap.get? b = some o → b ∉ X.ex → b ∉ ch := fun b o e hx hb => by
    rcases (hch b hb).1 with z | z
    · exact hx z
    · exact absurd (Nat.lt_of_lt_of_le (Heap.lt_size e) z) (Nat.lt_irrefl _)
  have cellK : ∀ x c, X.env.cells.lookup x = some c → ∀ v, s.heap.IsCell c v → h'.IsCell c v := fun x c e v ⟨o, ho, hd⟩ => by
    have nch : c ∉ ch := fun z => (hch c z).2.2.1 x c e rfl
    by_cases hc : c ∈ X.fs
    · obtain ⟨sl, q⟩ := slot c o (I.cne x c e) hc nch ho (I.freeC x c e)
      exact ⟨_, q, hd⟩
    · exact ⟨o, keep c o (I.cne x c e) hc nch ho (I.freeC x c e), hd⟩
  refine ⟨I.ok, I.os, hg, ⟨fun b o e n hb hx => ?_, fun b o e n hb hx => ?_, fun b o e n hx => ?_, fun b o e hx => ?_, fun b xs e => tups b xs (I.base.tups b xs e), fun b o xs e => frzs b o xs (I.base.frzs b o xs e), fun b ps e => ?_⟩, ?_, fun x c e => ?_, ?_, fun x c e => ?_, fun p hp => ?_, hok, I.len⟩
  · exact keep b o (neL b o e) hb (neC b o e hx) (I.base.keep b o e n hb hx) (I.base.free b o e n hx)
  · obtain ⟨sl, e1⟩ := I.base.slot b o e n hb hx
    obtain ⟨sl', e2⟩ := slot b _ (neL b o e) hb (neC b o e hx) e1 (I.base.free b o e n hx)
    exact ⟨sl', e2⟩
  · obtain ⟨o', e1⟩ := I.base.there b o e hx
    exact free b o' (neC b o e hx) e1 (I.base.free b o e n hx)
  · obtain ⟨o', e1⟩ := I.base.there b o e hx
    exact there b o' (neC b o e hx) e1
  · exact tbls b ps (I.base.tbls b ps e)
  · obtain ⟨m, hn, hl⟩ := I.loc
    refine ⟨m, ns m hn, fun i x v e1 e2 e3 => ?_⟩
    obtain ⟨u, r, l⟩ := hl i x v e1 e2 e3
    refine ⟨u, r, ?_⟩
    rcases l with l | ⟨k, c, e, z⟩
    · exact .inl l
    · exact .inr ⟨k, c, e, cellK x c e _ z⟩
  · obtain ⟨v, z⟩ := I.cell x c e
    exact ⟨v, cellK x c e v z⟩
  · obtain ⟨m, ⟨o, _, _, ho, _⟩, _⟩ := I.loc
    exact free _ o (fun z => (hch _ z).2.1 rfl) ho I.free
  · obtain ⟨v, o, ho, hd⟩ := I.cell x c e
    exact free c o (fun z => (hch c z).2.2.1 x c e rfl) ho (I.freeC x c e)
  · obtain ⟨e, n, ne, nf, d⟩ := I.pin p hp
    have nch : p.1 ∉ ch := fun z => (hch p.1 z).2.2.2 p hp rfl
    exact ⟨keep p.1 p.2 ne nf nch e n, free p.1 p.2 nch e n, ne, nf, d⟩
theorem Inv.un {t' : Nat} (I : Inv X pins σ H s) (u : Un X.fs [] H H' s.heap h') (hok : HOk X.prog X.w H' h') : Inv X pins σ H' { s with heap := h', toks := t' } := by
  obtain ⟨m, ⟨o, es, ep, ho, r⟩, _⟩ := id I.loc
  obtain ⟨sl, hL⟩ := u.any ho I.free (by simp)
  exact I.step (g' := s.gens) (d' := s.drawn) (ch := []) (fun _ z => nomatch z) (fun b o _ hb _ e n => u.keep b o e n hb (by simp)) (fun b o _ hb _ e n => u.slot b o e n hb (by simp)) (fun b o _ e n => u.free b o e n (by simp)) (fun b o _ e => u.there b o e (by simp)) u.tups u.frzs u.tbls (fun m' hm => by
    obtain ⟨o', es', ep', ho', r'⟩ := hm
    rw [ho] at ho'; cases ho'
    exact ⟨_, es', ep', hL, r'⟩) hok I.bare
theorem Inv.call {g' : Array GenState} {t' : Nat} {d' : Drawn} {ch : List Addr} (I : Inv X pins σ H s) (u : Un (frs X.stack) ch H H' s.heap h') (hok : HOk X.prog X.w H' h') (hg : AllBare g')
    (hch : ∀ b ∈ ch, (b ∈ X.ex ∨ X.s₀.heap.objs.size ≤ b) ∧ b ≠ X.env.locals ∧ (∀ x c, X.env.cells.lookup x = some c → c ≠ b) ∧ ∀ p ∈ X.pn ++ pins, p.1 ≠ b) :
    Inv X pins σ H' { s with heap := h', gens := g', drawn := d', toks := t' } := by
  obtain ⟨m, ⟨o, es, ep, ho, r⟩, _⟩ := id I.loc
  obtain ⟨sl, hL⟩ := u.any ho I.free fun z => (hch _ z).2.1 rfl
  exact I.step (ch := ch) hch (fun b o hL hb hc e n => u.keep b o e n (fun z => (List.mem_cons.mp (I.stkSub b z)).elim hL hb) hc) (fun b o _ _ hc e n => u.any e n hc) (fun b o hc e n => u.free b o e n hc) (fun b o hc e => u.there b o e hc) u.tups u.frzs u.tbls (fun m' hm => by
    obtain ⟨o', es', ep', ho', r'⟩ := hm
    rw [ho] at ho'; cases ho'
    exact ⟨_, es', ep', hL, r'⟩) hok hg
theorem Inv.turned {t' : Nat} {it : Addr} (I : Inv X pins σ H s) (k : ∀ b o, b ≠ it → s.heap.get? b = some o → h'.get? b = some o) (hn : H it = none) (hL : it ≠ X.env.locals)
    (h1 : it ∈ X.ex ∨ X.s₀.heap.objs.size ≤ it) (h2 : ∀ x c, X.env.cells.lookup x = some c → c ≠ it) (h3 : ∀ p ∈ X.pn ++ pins, p.1 ≠ it) : Inv X pins σ H { s with heap := h', toks := t' } := by
  have nit : ∀ b u, H b = some u → b ≠ it := fun b u e z => by rw [z, hn] at e; cases e
  refine I.step (g' := s.gens) (d' := s.drawn) (ch := [it]) (fun b hb => ?_) (fun b o _ _ hc e _ => k b o (fun z => hc (by simp [z])) e) (fun b o _ _ hc e _ => ⟨o.slots, k b o (fun z => hc (by simp [z])) e⟩) (fun _ _ _ _ n => n)
    (fun b o hc e => ⟨o, k b o (fun z => hc (by simp [z])) e⟩) (fun _ _ e => e) (fun _ _ _ e => e) (fun b ps e => (by rw [e])) (fun m hm => ?_) (fun b u e => ?_) I.bare
  · have e : b = it := by simpa using hb
    subst e
    exact ⟨h1, hL, h2, h3⟩
  · obtain ⟨o, es, ep, ho, r⟩ := hm
    exact ⟨o, es, ep, k _ o (Ne.symm hL) ho, r⟩
  · refine (I.hok b u e).stay (fun c v hc q => k c v ?_ q) (fun _ q => q) fun _ _ q => q
    rcases hc with z | z
    · rw [z]; exact nit b u e
    · exact nit c _ z
theorem Inv.tok (I : Inv X pins σ H s) (t : Nat) : Inv X pins σ H { s with toks := t } := I.un (h' := s.heap) (t' := t) Un.refl I.hok
theorem Inv.kept {t' : Nat} (I : Inv X pins σ H s) (k : ∀ b u, s.heap.get? b = some u → h'.get? b = some u) : Inv X pins σ H { s with heap := h', toks := t' } := I.un (Un.kept k) (I.hok.kept k)
theorem Inv.laid {a : Addr} {o : HO} {t' : Nat} (I : Inv X pins σ H s) (k : ∀ b u, s.heap.get? b = some u → h'.get? b = some u) (hp : s.heap.objs.size ≤ a) (new : ObjOk X.prog X.w (upd H a o) h' a o) :
    Inv X pins σ (upd H a o) { s with heap := h', toks := t' } := I.un (Un.laid k hp (I.hok.fresh hp)) (I.hok.laid k hp new)
theorem Inv.write {x e : Addr} {o : HO} {t' : Nat} (I : Inv X pins σ H s) (mu : Mut (H x)) (he : e = x ∨ H e = some (.own x)) (k : ∀ b u, b ≠ e → s.heap.get? b = some u → h'.get? b = some u) (heo : ∃ u, h'.get? e = some u)
    (new : ObjOk X.prog X.w (upd H x o) h' x o) : Inv X pins σ (upd H x o) { s with heap := h', toks := t' } := I.un (Un.write mu he k heo) (I.hok.write mu he k heo new)
theorem Inv.weak {σ' : List (Option V)} (I : Inv X pins σ H s) (hl : σ'.length = σ.length) (w : ∀ (i : Nat) v, σ'[i]? = some (some v) → σ[i]? = some (some v)) : Inv X pins σ' H s :=
  ⟨I.ok, I.os, I.bare, I.base, let ⟨m, hn, hl'⟩ := I.loc; ⟨m, hn, fun i x v e1 e2 e3 => hl' i x v e1 (w i v e2) e3⟩, I.cell, I.free, I.freeC, I.pin, I.hok, hl.trans I.len⟩
theorem Inv.pins_of {pins' : List (Addr × Obj)} (I : Inv X pins σ H s) (h : ∀ p ∈ pins', s.heap.get? p.1 = some p.2 ∧ H p.1 = none ∧ p.1 ≠ X.env.locals ∧ p.1 ∉ X.fs ∧ ∀ v, p.2.data ≠ .cell v) : Inv X pins' σ H s :=
  ⟨I.ok, I.os, I.bare, I.base, I.loc, I.cell, I.free, I.freeC, fun p hp => (List.mem_append.mp hp).elim (fun z => I.pin p (List.mem_append_left _ z)) (h p), I.hok, I.len⟩
theorem nodup_ix {N : List Str} (hN : N.Nodup) {i j : Nat} {x : Str} (a : N[i]? = some x) (b : N[j]? = some x) : i = j := by
  obtain ⟨h1, e1⟩ := List.getElem?_eq_some_iff.mp a
  obtain ⟨h2, e2⟩ := List.getElem?_eq_some_iff.mp b
  exact (List.getElem_inj hN).mp (e1.trans e2.symm)
theorem store_ok2 {M : Model} {A : Around} {E : Value → Shared → Prop} {i : Nat} {x : Str} {v : V} {u : Value} {Q : Unit → Shared → Prop} (I : Inv X pins σ H s) (hN : X.N.Nodup) (hi : X.N[i]? = some x) (hx : Loc X.env.scope x) (r : RelV v u)
    (h : ∀ s', Inv X pins (σ.set i (some v)) H s' → (∃ a, Heap.SameBut a s.heap s'.heap ∧ (a = X.env.locals ∨ X.env.cells.lookup x = some a)) → Q () s') (hf : X.fn x = true ∨ X.env.scope.names.lookup x = some .local := by first | exact .inl rfl | exact .inr rfl | assumption) : wpAny M A (storeName X.env x u) Q E s := by
  obtain ⟨m, hn, hl⟩ := id I.loc
  have hcls : (X.env.scope.kind == .class || (X.env.scope.kind == .module && X.env.locals != X.env.globals)) = false := by rw [I.ok.kind]; rfl
  have hiσ : i < σ.length := by rw [I.len]; exact (List.getElem?_eq_some_iff.mp hi).1
  have cne := I.cne
  have tracked : ∀ {a : Addr} {h' : Heap}, (∃ o, s.heap.get? a = some o ∧ H a = none) → Heap.SameBut a s.heap h' → HOk X.prog X.w H h' := fun {a h'} ha hs b ob e => by
    obtain ⟨_, _, hfree⟩ := ha
    refine (I.hok b ob e).stay (fun c w' hc q => (hs.2 c ?_).trans q) (fun _ q => q) fun _ _ q => q
    rintro rfl
    rcases hc with rfl | hc
    · rw [hfree] at e; cases e
    · rw [hfree] at hc; cases hc
  rcases hx with hk | hk
  · refine wpAny_storeName_local hk hn (fun h' hn' hs => ?_) hcls
    obtain ⟨oL, _, _, hoL, _⟩ := id hn
    refine h _ ⟨I.ok, I.os, I.bare, ⟨fun b o e n hb hx => ?_, fun b o e n hb hx => ?_, I.base.free, fun b o e hx => ?_, I.base.tups, I.base.frzs, I.base.tbls⟩, ⟨_, hn', fun j y v' e1 e2 e3 => ?_⟩, fun y c e => ?_, I.free, I.freeC, fun p hp => ?_, tracked ⟨oL, hoL, I.free⟩ hs, by simpa using I.len⟩ ⟨_, hs, .inl rfl⟩
    · exact (hs.2 b (Nat.ne_of_lt (Nat.lt_of_lt_of_le (Heap.lt_size e) I.ok.above))).trans (I.base.keep b o e n hb hx)
    · obtain ⟨sl, e1⟩ := I.base.slot b o e n hb hx
      exact ⟨sl, (hs.2 b (Nat.ne_of_lt (Nat.lt_of_lt_of_le (Heap.lt_size e) I.ok.above))).trans e1⟩
    · obtain ⟨o', e1⟩ := I.base.there b o e hx
      exact ⟨o', (hs.2 b (Nat.ne_of_lt (Nat.lt_of_lt_of_le (Heap.lt_size e) I.ok.above))).trans e1⟩
    · by_cases hj : j = i
      · subst hj
        rw [hi] at e1; cases e1
        rw [List.getElem?_set_self hiσ] at e2
        cases e2
        exact ⟨u, r, .inl ⟨hk, by simp⟩⟩
      · rw [List.getElem?_set_ne (Ne.symm hj)] at e2
        obtain ⟨u', r', q⟩ := hl j y v' e1 e2 e3
        refine ⟨u', r', ?_⟩
        rcases q with ⟨k, e⟩ | ⟨k, c, e, z⟩
        · refine .inl ⟨k, ?_⟩
          have : y ≠ x := fun e => hj (nodup_ix hN e1 (e ▸ hi))
          simp [this, e]
        · exact .inr ⟨k, c, e, z.sameBut hs (cne y c e)⟩
    · obtain ⟨w', z⟩ := I.cell y c e
      exact ⟨w', z.sameBut hs (cne y c e)⟩
    · obtain ⟨e, n, ne, nf, d⟩ := I.pin p hp
      exact ⟨(hs.2 p.1 ne).trans e, n, ne, nf, d⟩
  · have hfn : X.fn x = true := by
      rcases hf with z | z
      · exact z
      · rw [z] at hk; cases hk
    obtain ⟨c, hc⟩ := I.ok.has x (.inl hk)
    obtain ⟨w', z⟩ := I.cell x c hc
    refine wpAny_storeName_cell I.ok.kind hk hc z (fun h' hc' hs => ?_)
    obtain ⟨oc, hoc, hocd⟩ := id z
    refine h { s with heap := h' } ⟨I.ok, I.os, I.bare, ⟨fun b o e n hb hx => ?_, fun b o e n hb hx => ?_, I.base.free, fun b o e hx => ?_, I.base.tups, I.base.frzs, I.base.tbls⟩, ⟨m, hn.sameBut hs (Ne.symm (cne x c hc)), fun j y v' e1 e2 e3 => ?_⟩, fun y c' e => ?_, I.free, I.freeC, fun p hp => ?_, tracked ⟨oc, hoc, I.freeC x c hc⟩ hs, by simpa using I.len⟩ ⟨c, hs, .inr hc⟩
    · exact (hs.2 b (Nat.ne_of_lt (Nat.lt_of_lt_of_le (Heap.lt_size e) (I.ok.cab x c hfn hc)))).trans (I.base.keep b o e n hb hx)
    · obtain ⟨sl, e1⟩ := I.base.slot b o e n hb hx
      exact ⟨sl, (hs.2 b (Nat.ne_of_lt (Nat.lt_of_lt_of_le (Heap.lt_size e) (I.ok.cab x c hfn hc)))).trans e1⟩
    · obtain ⟨o', e1⟩ := I.base.there b o e hx
      exact ⟨o', (hs.2 b (Nat.ne_of_lt (Nat.lt_of_lt_of_le (Heap.lt_size e) (I.ok.cab x c hfn hc)))).trans e1⟩
    · by_cases hj : j = i
      · subst hj
        rw [hi] at e1; cases e1
        rw [List.getElem?_set_self hiσ] at e2
        cases e2
        exact ⟨u, r, .inr ⟨.inl hk, c, hc, hc'⟩⟩
      · rw [List.getElem?_set_ne (Ne.symm hj)] at e2
        obtain ⟨u', r', q⟩ := hl j y v' e1 e2 e3
        refine ⟨u', r', ?_⟩
        rcases q with q | ⟨k, c', e, z'⟩
        · exact .inl q
        · refine .inr ⟨k, c', e, z'.sameBut hs ?_⟩
          rintro rfl
          exact hj (nodup_ix hN e1 (I.ok.inj _ _ _ e hc ▸ hi))
    · by_cases hcc : c' = c
      · subst hcc; exact ⟨_, hc'⟩
      · obtain ⟨w2, z2⟩ := I.cell y c' e
        exact ⟨w2, z2.sameBut hs hcc⟩
    · obtain ⟨e, n, ne, nf, d⟩ := I.pin p hp
      refine ⟨(hs.2 p.1 ?_).trans e, n, ne, nf, d⟩
      intro q
      rw [q, hoc] at e
      have q' : oc = p.2 := Option.some.inj e
      exact d w' (by rw [← q']; exact hocd)
theorem store_ok {M : Model} {A : Around} {E : Value → Shared → Prop} {i : Nat} {x : Str} {v : V} {u : Value} {Q : Unit → Shared → Prop} (I : Inv X pins σ H s) (hN : X.N.Nodup) (hi : X.N[i]? = some x) (hx : Loc X.env.scope x) (r : RelV v u)
    (h : ∀ s', Inv X pins (σ.set i (some v)) H s' → Q () s') (hf : X.fn x = true ∨ X.env.scope.names.lookup x = some .local := by first | exact .inl rfl | exact .inr rfl | assumption) : wpAny M A (storeName X.env x u) Q E s :=
  store_ok2 I hN hi hx r (fun s' I' _ => h s' I') hf
theorem Inv.call' {s' : Shared} {ch : List Addr} (I : Inv X pins σ H s) (ho : s'.os = s.os) (u : Un (frs X.stack) ch H H' s.heap s'.heap) (hok : HOk X.prog X.w H' s'.heap) (hg : AllBare s'.gens)
    (hch : ∀ b ∈ ch, (b ∈ X.ex ∨ X.s₀.heap.objs.size ≤ b) ∧ b ≠ X.env.locals ∧ (∀ x c, X.env.cells.lookup x = some c → c ≠ b) ∧ ∀ p ∈ X.pn ++ pins, p.1 ≠ b) : Inv X pins σ H' s' := by
  obtain ⟨h', g', d', t', o'⟩ := s'
  have e : o' = s.os := ho
  subst e
  exact I.call (g' := g') (t' := t') (d' := d') u hok hg hch
end
noncomputable abbrev XK := Value → Option Addr → Hp → Prop
noncomputable abbrev St := List (Option V)
noncomputable abbrev VK := V → Hp → Prop
noncomputable abbrev TE := St → Hp → VK → Prop
noncomputable abbrev TT := St → Hp → (Bool → Hp → Prop) → Prop
noncomputable abbrev TA := St → Hp → (List V → Hp → Prop) → Prop
structure Ends where
  nx : St → Hp → Prop
  rt : VK
  bk : St → Hp → Prop := fun _ _ => False
  ct : St → Hp → Prop := fun _ _ => False
noncomputable abbrev TS := Ends → St → Hp → Prop
noncomputable def EP (X : Cx) (pins : List (Addr × Obj)) (σ : St) (Q : VK) (u : Value) (s' : Shared) : Prop := ∃ v H', Inv X pins σ H' s' ∧ RelV v u ∧ Q v H'
noncomputable def TP (X : Cx) (pins : List (Addr × Obj)) (σ : St) (Q : Bool → Hp → Prop) (b : Bool) (s' : Shared) : Prop := ∃ H', Inv X pins σ H' s' ∧ Q b H'
noncomputable def AP (X : Cx) (pins : List (Addr × Obj)) (σ : St) (Q : List V → Hp → Prop) (us : List Value) (s' : Shared) : Prop := ∃ vs H', Inv X pins σ H' s' ∧ Vals vs us ∧ Q vs H'
noncomputable def SP (X : Cx) (pins : List (Addr × Obj)) (D : Ends) (f : Flow) (s' : Shared) : Prop :=
  match f with
  | .next => ∃ σ' H', Inv X pins σ' H' s' ∧ D.nx σ' H'
  | .brk => ∃ σ' H', Inv X pins σ' H' s' ∧ D.bk σ' H'
  | .cont => ∃ σ' H', Inv X pins σ' H' s' ∧ D.ct σ' H'
  | .ret u => ∃ v σ' H', Inv X pins σ' H' s' ∧ RelV v u ∧ D.rt v H'
noncomputable def PE (X : Cx) (e : Expr) (t : TE) : Prop :=
  ∀ (pins : List (Addr × Obj)) (s : Shared) (σ : St) (H : Hp) (Q : VK), Inv X pins σ H s → t σ H Q → wpAny (model X.prog X.w) X.A (eval e X.env) (EP X pins σ Q) X.xe s
noncomputable def PT (X : Cx) (e : Expr) (t : TT) : Prop :=
  ∀ (pins : List (Addr × Obj)) (s : Shared) (σ : St) (H : Hp) (Q : Bool → Hp → Prop), Inv X pins σ H s → t σ H Q → wpAny (model X.prog X.w) X.A (isTrue e X.env (eval e X.env)) (TP X pins σ Q) X.xe s
noncomputable def PW (X : Cx) (e : Expr) (t : TT) : Prop :=
  ∀ (whole : Sem Value) (pins : List (Addr × Obj)) (s : Shared) (σ : St) (H : Hp) (Q : Bool → Hp → Prop), Inv X pins σ H s → t σ H Q → wpAny (model X.prog X.w) X.A (isTrue e X.env whole) (TP X pins σ Q) X.xe s
theorem PW.pt {X : Cx} {e : Expr} {t : TT} (h : PW X e t) : PT X e t := h _
noncomputable def PA (X : Cx) (es : List Expr) (t : TA) : Prop :=
  ∀ (pos : Pos) (pins : List (Addr × Obj)) (s : Shared) (σ : St) (H : Hp) (Q : List V → Hp → Prop), Inv X pins σ H s → t σ H Q → wpAny (model X.prog X.w) X.A (spliced (backTo pos (starEach es X.env))) (AP X pins σ Q) X.xe s
noncomputable def PS (X : Cx) (st : Stmt) (t : TS) : Prop :=
  ∀ (pins : List (Addr × Obj)) (s : Shared) (σ : St) (H : Hp) (D : Ends), Inv X pins σ H s → t D σ H → wpAny (model X.prog X.w) X.A (exec st X.env) (SP X pins D) X.xe s
noncomputable def PSs (X : Cx) (st : List Stmt) (t : TS) : Prop :=
  ∀ (pins : List (Addr × Obj)) (s : Shared) (σ : St) (H : Hp) (D : Ends), Inv X pins σ H s → t D σ H → wpAny (model X.prog X.w) X.A (execs st X.env) (SP X pins D) X.xe s
theorem thn {α : Type} {t : Sem α} {Q Q' : α → Shared → Prop} {M : Model} {A : Around} {E : Value → Shared → Prop} {s : Shared} (h : wpAny M A t Q E s) (hQ : ∀ a s, Q a s → Q' a s) : wpAny M A t Q' E s := wpAny_mono h hQ fun _ _ x => x
end L2
namespace L2
open PySem PySem.Spec PyProof.Rows
section
variable {X : Cx}
noncomputable def tVar (i : Nat) : TE := fun σ H Q => ∃ v, σ[i]? = some (some v) ∧ Q v H
noncomputable def tC (v : V) : TE := fun _ H Q => Q v H
theorem pe_var {i : Nat} {x : Str} {pos : Pos} (hN : X.N[i]? = some x) (hv : Vis X.env.scope x) (hd : (x == ("__debug__" : Str)) = false := by decide) (hcd : (x == ("__classdict__" : Str)) = false := by decide) : PE X (.Name x pos) (tVar i) := by
  intro pins s σ H Q I h
  obtain ⟨v, e, h⟩ := h
  obtain ⟨m, hn, hl⟩ := I.loc
  obtain ⟨u, r, l⟩ := hl i x v hN e hv
  have fin : EP X pins σ Q u s := ⟨v, H, I, r, h⟩
  rcases l with ⟨hk, hm⟩ | ⟨hk, c, hc, hcell⟩
  · exact wpAny_Name (wpAny_loadName_local I.ok.kind hk hn hm fin) hd
  · rcases hk with hk | hk
    · exact wpAny_Name (wpAny_loadName_cell I.ok.kind hk hc hcell fin) hd
    · exact wpAny_Name (wpAny_loadName_free I.ok.kind hk hc hcell fin hcd) hd
theorem pe_int {i j pos} : PE X (.Constant (.int i) j pos) (tC (.int i)) := fun _ _ _ H _ I h => wpAny_Constant_int ⟨.int i, H, I.tok _, ⟨_, rfl⟩, h⟩
theorem pe_bl {b j pos} : PE X (.Constant (.bool b) j pos) (tC (.bl b)) := fun _ _ _ H _ I h => Constant_bool ⟨.bl b, H, I, rfl, h⟩
theorem pe_str {x j pos} : PE X (.Constant (.str x) j pos) (tC (.str x)) := fun _ _ _ H _ I h => Calls.Constant_str ⟨.str x, H, I.tok _, ⟨_, rfl⟩, h⟩
noncomputable def Gl (X : Cx) (x : Str) : Prop := X.env.kindOf x = some .globalImplicit
theorem ld_glob {E : Value → Shared → Prop} {pins : List (Addr × Obj)} {s : Shared} {σ : St} {H : Hp} {x : Str} {u : Value} {pos : Pos} {Q : Value → Shared → Prop} (I : Inv X pins σ H s) (hg : Gl X x) (hm : X.mg x = some u) (h : Q u s)
    (hd : (x == ("__debug__" : Str)) = false := by decide) : wpAny (model X.prog X.w) X.A (eval (.Name x pos) X.env) Q E s :=
  Calls.Name_function_global I.ok.kind hg (Calls.loadGlobal_global (by rw [I.ok.glob]; exact I.mod.glob.keeps I.bk) hm h) hd
theorem ld_blt {E : Value → Shared → Prop} {pins : List (Addr × Obj)} {s : Shared} {σ : St} {H : Hp} {x : Str} {u : Value} {pos : Pos} {Q : Value → Shared → Prop} (I : Inv X pins σ H s) (hg : Gl X x) (hm : X.mg x = none) (hv : bootBuiltins x = some u) (h : Q u s)
    (hn : x ≠ "__name__" := by decide) (hd : (x == ("__debug__" : Str)) = false := by decide) : wpAny (model X.prog X.w) X.A (eval (.Name x pos) X.env) Q E s := by
  obtain ⟨mb, h1, h2⟩ := I.mod.blt
  exact Calls.Name_function_global I.ok.kind hg (Calls.loadGlobal_builtin (by rw [I.ok.glob]; exact I.mod.glob.keeps I.bk) hm (by rw [I.ok.blt]; exact h1.keeps I.bk) ((h2 x hn).trans hv) h) hd
theorem pe_glob {x : Str} {v : V} {u : Value} {pos : Pos} (hg : Gl X x) (hm : X.mg x = some u) (r : RelV v u) (hd : (x == ("__debug__" : Str)) = false := by decide) : PE X (.Name x pos) (tC v) :=
  fun _ _ _ H _ I h => ld_glob I hg hm ⟨v, H, I, r, h⟩ hd
theorem pe_bltn {x : Str} {v : V} {u : Value} {pos : Pos} (hg : Gl X x) (hm : X.mg x = none) (hv : bootBuiltins x = some u) (r : RelV v u) (hn : x ≠ "__name__" := by decide) (hd : (x == ("__debug__" : Str)) = false := by decide) : PE X (.Name x pos) (tC v) :=
  fun _ _ _ H _ I h => ld_blt I hg hm hv ⟨v, H, I, r, h⟩ hn hd
variable {a b : Expr} {ta tb : TE} {pos : Pos}
noncomputable def PC (X : Cx) (op : CmpOp) (a b : Expr) (t : TE) : Prop :=
  ∀ (pins : List (Addr × Obj)) (s : Shared) (σ : St) (H : Hp) (Q : VK), Inv X pins σ H s → t σ H Q →
    wpAny (model X.prog X.w) X.A (eval a X.env) (fun v s₁ => wpAny (model X.prog X.w) X.A (eval b X.env) (fun u s₂ => wpAny (model X.prog X.w) X.A (compareOp op v u) (EP X pins σ Q) X.xe s₂) X.xe s₁) X.xe s
noncomputable def tB (t : TE) : TT := fun σ H Q => t σ H fun x H1 => ∃ c, x = .bl c ∧ Q c H1
theorem pt_val {e : Expr} {t : TE} (h : PE X e t) (he : ∀ whole, isTrue e X.env whole = (do let v ← whole; standAt e.pos; holding [v] (truthy v)) := by intro _; rfl) : PT X e (tB t) := by
  intro pins s σ H Q I hw
  refine isTrue_plain (thn (h pins s σ H _ I hw) fun v s1 ⟨x, H1, I1, r1, q1⟩ => ?_) (he _)
  obtain ⟨d, rfl, q⟩ := q1
  cases r1
  exact wpAny_truthy_bool ⟨H1, I1, q⟩
variable {tA tB' : TT} {rest : List Expr}
noncomputable def tAnd (t u : TT) : TT := fun σ H Q => t σ H fun c H1 => if c = true then u σ H1 Q else Q false H1
noncomputable def tOr (t u : TT) : TT := fun σ H Q => t σ H fun c H1 => if c = true then Q true H1 else u σ H1 Q
noncomputable def tNot (t : TT) : TT := fun σ H Q => t σ H fun c H1 => Q (!c) H1
theorem pw_and1 (ha : PT X a tA) : PW X (.BoolOp .And [a] pos) tA := by
  intro wh pins s σ H Q I h
  refine isTrue_and (thn (ha pins s σ H Q I h) fun c s1 e => ?_)
  cases c with
  | true => exact isTrue_and_nil e
  | false => exact e
theorem pw_or1 (ha : PT X a tA) : PW X (.BoolOp .Or [a] pos) tA := by
  intro wh pins s σ H Q I h
  refine isTrue_or (thn (ha pins s σ H Q I h) fun c s1 e => ?_)
  cases c with
  | false => exact isTrue_or_nil e
  | true => exact e
theorem pw_and (ha : PT X a tA) (hb : PW X (.BoolOp .And (b :: rest) pos) tB') : PW X (.BoolOp .And (a :: b :: rest) pos) (tAnd tA tB') := by
  intro wh pins s σ H Q I h
  refine isTrue_and (thn (ha pins s σ H _ I h) fun c s1 ⟨H1, I1, q1⟩ => ?_)
  cases c with
  | true => exact hb wh pins s1 σ H1 Q I1 q1
  | false => exact ⟨H1, I1, q1⟩
theorem pw_or (ha : PT X a tA) (hb : PW X (.BoolOp .Or (b :: rest) pos) tB') : PW X (.BoolOp .Or (a :: b :: rest) pos) (tOr tA tB') := by
  intro wh pins s σ H Q I h
  refine isTrue_or (thn (ha pins s σ H _ I h) fun c s1 ⟨H1, I1, q1⟩ => ?_)
  cases c with
  | true => exact ⟨H1, I1, q1⟩
  | false => exact hb wh pins s1 σ H1 Q I1 q1
theorem pt_not (ha : PT X a tA) : PT X (.UnaryOp .Not a pos) (tNot tA) := by
  intro pins s σ H Q I h
  exact isTrue_not (ha pins s σ H (fun c H1 => Q (!c) H1) I h)
noncomputable def tAndV (ta tb : TE) : TE := fun σ H Q => ta σ H fun x H1 => ∃ c, x = .bl c ∧ if c = true then tb σ H1 Q else Q (.bl false) H1
noncomputable def tOrV (ta tb : TE) : TE := fun σ H Q => ta σ H fun x H1 => ∃ c, x = .bl c ∧ if c = true then Q (.bl true) H1 else tb σ H1 Q
noncomputable def tNotV (ta : TE) : TE := fun σ H Q => ta σ H fun x H1 => ∃ c, x = .bl c ∧ Q (.bl (!c)) H1
theorem pe_one {op} {t : TE} (h : PE X a t) : PE X (.BoolOp op [a] pos) t := fun pins s σ H Q I hw => BoolOp_one (h pins s σ H Q I hw)
theorem pe_and (ha : PE X a ta) (hb : PE X (.BoolOp .And (b :: rest) pos) tb) : PE X (.BoolOp .And (a :: b :: rest) pos) (tAndV ta tb) := by
  intro pins s σ H Q I h
  refine BoolOp_and (thn (ha pins s σ H _ I h) fun v s1 ⟨x, H1, I1, r1, q1⟩ => ?_)
  obtain ⟨c, rfl, q1⟩ := q1
  cases r1
  refine wpAny_truthy_bool ?_
  cases c with
  | true => exact hb pins s1 σ H1 Q I1 q1
  | false => exact ⟨.bl false, H1, I1, rfl, q1⟩
theorem pe_or (ha : PE X a ta) (hb : PE X (.BoolOp .Or (b :: rest) pos) tb) : PE X (.BoolOp .Or (a :: b :: rest) pos) (tOrV ta tb) := by
  intro pins s σ H Q I h
  refine BoolOp_or (thn (ha pins s σ H _ I h) fun v s1 ⟨x, H1, I1, r1, q1⟩ => ?_)
  obtain ⟨c, rfl, q1⟩ := q1
  cases r1
  refine wpAny_truthy_bool ?_
  cases c with
  | false => exact hb pins s1 σ H1 Q I1 q1
  | true => exact ⟨.bl true, H1, I1, rfl, q1⟩
theorem pe_not (ha : PE X a ta) : PE X (.UnaryOp .Not a pos) (tNotV ta) := by
  intro pins s σ H Q I h
  refine UnaryOp_ (thn (ha pins s σ H _ I h) fun v s1 ⟨x, H1, I1, r1, q1⟩ => ?_)
  obtain ⟨c, rfl, q1⟩ := q1
  cases r1
  exact not_of (wpAny_truthy_bool ⟨.bl (!c), H1, I1, rfl, q1⟩)
noncomputable def tIf (t : TT) (ta tb : TE) : TE := fun σ H Q => t σ H fun c H1 => if c = true then ta σ H1 Q else tb σ H1 Q
theorem pe_ifExp {c : Expr} (hc : PT X c tA) (ha : PE X a ta) (hb : PE X b tb) : PE X (.IfExp c a b pos) (tIf tA ta tb) := by
  intro pins s σ H Q I h
  refine wpAny_IfExp (thn (hc pins s σ H _ I h) fun d s1 ⟨H1, I1, q1⟩ => ?_)
  cases d with
  | true => exact ha pins s1 σ H1 Q I1 q1
  | false => exact hb pins s1 σ H1 Q I1 q1
end
end L2
namespace L2
open PySem PySem.Spec PyProof.Rows
noncomputable def SqL (K : PySem.W.Frag) (H : Hp) (a : Addr) (xs : List V) : Prop :=
  Rd H a (.lst xs) ∨
    ∃ (o : Obj) (its : Array Value) (n : Nat), K.lookup a = some o ∧ o.cls = .type "list" ∧ o.dict = none ∧ o.data = .seq its n ∧ its.size ≤ sizeLine ∧ Vals xs its.toList
noncomputable def SqT (K : PySem.W.Frag) (H : Hp) (a : Addr) (xs : List V) : Prop :=
  Rd H a (.tup xs) ∨
    ∃ (o : Obj) (its : Array Value) (n : Nat), K.lookup a = some o ∧ o.cls = .type "tuple" ∧ o.data = .seq its n ∧ its.size ≤ sizeLine ∧ Vals xs its.toList
noncomputable def absV : Value → Option V
  | .none => some .non
  | .bool b => some (.bl b)
  | .int i _ => some (.int i)
  | .str x _ => some (.str x)
  | .bytes b _ => some (.byt b)
  | .float b _ => some (.flt b)
  | .ref a => some (.ref a)
  | .type n => some (.ty n)
  | _ => none
theorem RelV.abs {x : V} {u : Value} (r : RelV x u) : absV u = some x := by
  cases x with
  | non => cases r; rfl
  | bl _ => cases r; rfl
  | int _ => obtain ⟨t, rfl⟩ := r; rfl
  | str _ => obtain ⟨t, rfl⟩ := r; rfl
  | byt _ => obtain ⟨t, rfl⟩ := r; rfl
  | flt _ => obtain ⟨t, rfl⟩ := r; rfl
  | ref _ => cases r; rfl
  | ty _ => cases r; rfl
theorem RelV.inj {x y : V} {u : Value} (r : RelV x u) (q : RelV y u) : x = y := Option.some.inj (r.abs.symm.trans q.abs)
theorem Vals.inj : ∀ {xs ys : List V} {us : List Value}, Vals xs us → Vals ys us → xs = ys
  | _, _, _, .nil, .nil => rfl
  | _, _, _, .cons r t, .cons r' t' => by rw [r.inj r', Vals.inj t t']
section
variable {X : Cx} {pins : List (Addr × Obj)} {σ : St} {H : Hp} {s : Shared} {a : Addr} {xs ys : List V}
theorem SqL.of {K : PySem.W.Frag} (h : H a = some (.lst xs)) : SqL K H a xs := .inl (.inl h)
theorem SqT.of {K : PySem.W.Frag} (h : H a = some (.tup xs)) : SqT K H a xs := .inl (.inl h)
theorem Inv.list (I : Inv X pins σ H s) (h : SqL X.K H a xs) : ∃ its : List Value, Vals xs its ∧ PlainL s.heap a its.toArray ∧ xs.length ≤ sizeLine := by
  rcases h with h | ⟨o, its, n, hk, hc, hd, hs, hz, r⟩
  · obtain ⟨z, its, n, r, e⟩ := h.ok I.hok
    exact ⟨its, r, ⟨_, n, e, rfl, rfl, rfl⟩, z⟩
  · refine ⟨its.toList, r, ⟨o, n, I.kIn a o hk, hc, hd, by simpa using hs⟩, ?_⟩
    have e := r.length
    simp only [Array.length_toList] at e
    omega
theorem Inv.tuple (I : Inv X pins σ H s) (h : SqT X.K H a xs) : ∃ its : List Value, Vals xs its ∧ IsTup s.heap a its.toArray ∧ xs.length ≤ sizeLine := by
  rcases h with h | ⟨o, its, n, hk, hc, hs, hz, r⟩
  · obtain ⟨z, its, r, p⟩ := h.ok I.hok
    exact ⟨its, r, p, z⟩
  · refine ⟨its.toList, r, ⟨o, I.kIn a o hk, hc, n, by simpa using hs⟩, ?_⟩
    have e := r.length
    simp only [Array.length_toList] at e
    omega
theorem Inv.list_inj (I : Inv X pins σ H s) (h : SqL X.K H a xs) (h' : SqL X.K H a ys) : xs = ys := by
  obtain ⟨its, r, ⟨o, n, e, _, _, d⟩, _⟩ := I.list h
  obtain ⟨its', r', ⟨o', n', e', _, _, d'⟩, _⟩ := I.list h'
  rw [e] at e'; cases e'
  rw [d] at d'
  injection d' with d1 _
  have : its = its' := by simpa using congrArg Array.toList d1
  subst this
  exact r.inj r'
theorem Inv.tuple_inj (I : Inv X pins σ H s) (h : SqT X.K H a xs) (h' : SqT X.K H a ys) : xs = ys := by
  obtain ⟨its, r, ⟨o, e, _, n, d⟩, _⟩ := I.tuple h
  obtain ⟨its', r', ⟨o', e', _, n', d'⟩, _⟩ := I.tuple h'
  rw [e] at e'; cases e'
  rw [d] at d'
  injection d' with d1 _
  have : its = its' := by simpa using congrArg Array.toList d1
  subst this
  exact r.inj r'
end
noncomputable abbrev Cx.wish (X : Cx) (E : Value → Shared → Prop) : Cx := { X with xe := E }
noncomputable abbrev Cx.nox (X : Cx) : Cx := X.wish fun _ _ => False
theorem Cx.Ok.wish {X : Cx} (ok : X.Ok) (E : Value → Shared → Prop) : (X.wish E).Ok :=
  ⟨ok.mod, ok.kind, ok.glob, ok.blt, ok.above, ok.inj, ok.has, ok.cab, ok.hd, ok.frames, ok.stk, ok.exf, ok.bs, ok.bsz, ok.noex, ok.exfs, ok.funs, ok.frf⟩
theorem Cx.Ok.unwish {X : Cx} {E : Value → Shared → Prop} (ok : (X.wish E).Ok) : X.Ok :=
  ⟨ok.mod, ok.kind, ok.glob, ok.blt, ok.above, ok.inj, ok.has, ok.cab, ok.hd, ok.frames, ok.stk, ok.exf, ok.bs, ok.bsz, ok.noex, ok.exfs, ok.funs, ok.frf⟩
section
variable {X : Cx} {pins : List (Addr × Obj)} {σ : St} {H : Hp} {s : Shared} {E : Value → Shared → Prop}
theorem Inv.wish (I : Inv X pins σ H s) (E : Value → Shared → Prop) : Inv (X.wish E) pins σ H s := ⟨I.ok.wish E, I.os, I.bare, I.base, I.loc, I.cell, I.free, I.freeC, I.pin, I.hok, I.len⟩
theorem Inv.unwish (I : Inv (X.wish E) pins σ H s) : Inv X pins σ H s := ⟨I.ok.unwish, I.os, I.bare, I.base, I.loc, I.cell, I.free, I.freeC, I.pin, I.hok, I.len⟩
theorem SP.unwish {D : Ends} {f : Flow} {s' : Shared} (h : SP (X.wish E) pins D f s') : SP X pins D f s' := by
  cases f with
  | next => obtain ⟨σ', H', I, q⟩ := h; exact ⟨σ', H', I.unwish, q⟩
  | brk => obtain ⟨σ', H', I, q⟩ := h; exact ⟨σ', H', I.unwish, q⟩
  | cont => obtain ⟨σ', H', I, q⟩ := h; exact ⟨σ', H', I.unwish, q⟩
  | ret u => obtain ⟨v, σ', H', I, r, q⟩ := h; exact ⟨v, σ', H', I.unwish, r, q⟩
theorem PSs.nox {st : List Stmt} {t : TS} (h : PSs X.nox st t) : PSs X st t := fun pins s σ H D I hw =>
  wpAny_mono (h pins s σ H D (I.wish _) hw) (fun _ _ q => q.unwish) fun _ _ z => False.elim z
end
section
variable {X : Cx} {st : Stmt} {rest : List Stmt} {t u : TS} {e : Expr} {te : TE} {pos : Pos}
noncomputable def tNext : TS := fun D σ H => D.nx σ H
noncomputable def tSeq (t u : TS) : TS := fun D σ H => t { D with nx := u D } σ H
theorem pss_nil : PSs X [] tNext := fun _ _ σ H _ I h => wpAny_execs_nil ⟨σ, H, I, h⟩
theorem pss_cons (h1 : PS X st t) (h2 : PSs X rest u) : PSs X (st :: rest) (tSeq t u) := by
  intro pins s σ H D I h
  refine wpAny_execs_cons (thn (h1 pins s σ H { D with nx := u D } I h) fun f s1 q => ?_)
  cases f with
  | next =>
    obtain ⟨σ', H', I', q⟩ := q
    exact h2 pins s1 σ' H' D I' q
  | ret v => exact q
  | brk => exact q
  | cont => exact q
theorem pss_one (h1 : PS X st t) : PSs X [st] t := by
  intro pins s σ H D I h
  refine wpAny_execs_cons (thn (h1 pins s σ H D I h) fun f s1 q => ?_)
  cases f with
  | next => exact wpAny_execs_nil q
  | ret v => exact q
  | brk => exact q
  | cont => exact q
theorem Inv.quiet {pins : List (Addr × Obj)} {σ : St} {H : Hp} {s : Shared} (I : Inv X pins σ H s) : interactive X.env = false := by simp [interactive, I.ok.kind]
noncomputable def tDrop (te : TE) : TS := fun D σ H => te σ H fun _ H1 => D.nx σ H1
theorem ps_expr (he : PE X e te) (hs : swapsWith e none pos.line X.env = pure false := by rfl) : PS X (.Expr e pos) (tDrop te) := by
  intro pins s σ H D I h
  exact wpAny_Expr_any (thn (he pins s σ H _ I h) fun v s1 ⟨x, H1, I1, r1, q1⟩ => ⟨σ, H1, I1, q1⟩) I.quiet hs
noncomputable def tRet (te : TE) : TS := fun D σ H => te σ H D.rt
theorem ps_ret (he : PE X e te) : PS X (.Return (some e) pos) (tRet te) := by
  intro pins s σ H D I h
  exact wpAny_Return_some (thn (he pins s σ H _ I h) fun v s1 ⟨x, H1, I1, r1, q1⟩ => ⟨x, σ, H1, I1, r1, q1⟩)
noncomputable def tIfS (c : TT) (t u : TS) : TS := fun D σ H => c σ H fun b H1 => if b = true then t D σ H1 else u D σ H1
theorem ps_if {c : Expr} {a b : List Stmt} {tc : TT} (hc : PT X c tc) (ha : PSs X a t) (hb : PSs X b u) : PS X (.If c a b pos) (tIfS tc t u) := by
  intro pins s σ H D I h
  refine wpAny_If (thn (hc pins s σ H _ I h) fun d s1 ⟨H1, I1, q1⟩ => ?_)
  cases d with
  | true => exact ha pins s1 σ H1 D I1 q1
  | false => exact hb pins s1 σ H1 D I1 q1
end
noncomputable abbrev TG := V → St → Hp → (St → Hp → Prop) → Prop
noncomputable abbrev TGs := List V → St → Hp → (St → Hp → Prop) → Prop
noncomputable def PG (X : Cx) (target : Expr) (t : TG) : Prop :=
  ∀ (pins : List (Addr × Obj)) (s : Shared) (σ : St) (H : Hp) (v : V) (u : Value) (Q : St → Hp → Prop), Inv X pins σ H s → RelV v u → t v σ H Q →
    wpAny (model X.prog X.w) X.A (assign target X.env u) (fun _ s' => ∃ σ' H', Inv X pins σ' H' s' ∧ Q σ' H') X.xe s
noncomputable def PGs (X : Cx) (ts : List Expr) (t : TGs) : Prop :=
  ∀ (pins : List (Addr × Obj)) (s : Shared) (σ : St) (H : Hp) (vs : List V) (us : List Value) (Q : St → Hp → Prop), Inv X pins σ H s → Vals vs us → t vs σ H Q →
    wpAny (model X.prog X.w) X.A (assignInOrder ((assignEach ts X.env).map (·.2)) us) (fun _ s' => ∃ σ' H', Inv X pins σ' H' s' ∧ Q σ' H') X.xe s
noncomputable abbrev TIp := V → V → Hp → VK → Prop
noncomputable def PIp (X : Cx) (op : Operator) (t : TIp) : Prop :=
  ∀ (pins : List (Addr × Obj)) (s : Shared) (σ : St) (H : Hp) (x y : V) (v u : Value) (Q : VK), Inv X pins σ H s → RelV x v → RelV y u → t x y H Q →
    wpAny (model X.prog X.w) X.A (inplaceOp op v u) (EP X pins σ Q) X.xe s
section
variable {X : Cx} {pos : Pos}
noncomputable def gName (i : Nat) : TG := fun v σ H Q => Q (σ.set i (some v)) H
theorem pg_name {i : Nat} {x : Str} (hN : X.N.Nodup) (hi : X.N[i]? = some x) (hx : Loc X.env.scope x) (hf : X.fn x = true ∨ X.env.scope.names.lookup x = some .local := by first | exact .inl rfl | exact .inr rfl | assumption) : PG X (.Name x pos) (gName i) := by
  intro pins s σ H v u Q I r h
  exact wpAny_assign_Name (store_ok I hN hi hx r (fun s' I' => ⟨_, H, I', h⟩) hf)
noncomputable def gNil : TGs := fun vs σ H Q => vs = [] ∧ Q σ H
noncomputable def gCons (t : TG) (u : TGs) : TGs := fun vs σ H Q => ∃ v r, vs = v :: r ∧ t v σ H fun σ' H' => u r σ' H' Q
theorem pgs_nil : PGs X [] gNil := by
  intro pins s σ H vs us Q I r h
  obtain ⟨e, h⟩ := h
  subst e
  cases r
  exact assignInOrder_nil ⟨σ, H, I, h⟩
theorem pgs_cons {e : Expr} {es : List Expr} {t : TG} {u : TGs} (h1 : PG X e t) (h2 : PGs X es u)
    (hs : (assignEach (e :: es) X.env).map (·.2) = assign e X.env :: (assignEach es X.env).map (·.2) := by rfl) : PGs X (e :: es) (gCons t u) := by
  intro pins s σ H vs us Q I r h
  obtain ⟨v, vr, e1, h⟩ := h
  subst e1
  cases r with
  | cons r rr =>
    rw [hs]
    refine assignInOrder_cons (thn (h1 pins s σ H _ _ _ I r h) fun _ s1 ⟨σ1, H1, I1, q1⟩ => ?_)
    exact h2 pins s1 σ1 H1 _ _ Q I1 rr q1
noncomputable def gTup (K : PySem.W.Frag) (n : Nat) (t : TGs) : TG := fun v σ H Q => ∃ a xs, v = .ref a ∧ SqT K H a xs ∧ xs.length = n ∧ t xs σ H Q
theorem pg_tup {es : List Expr} {k : Nat} {t : TGs} {n : Nat} (hc : X.calm = true) (h : PGs X es t)
    (hn : (assignEach es X.env).length = n := by rfl) (hst : (assignEach es X.env).findIdx? (·.1) = none := by rfl) : PG X (.Tuple es k pos) (gTup X.K n t) := by
  intro pins s σ H v u Q I r hw
  obtain ⟨a, xs, e1, hq, hl, hw⟩ := hw
  subst e1
  cases r
  obtain ⟨its, rv, ht, hz⟩ := I.tuple hq
  refine assignH (I.hb hc) (show s.heap.IsTuple a its.toArray from ht) (by simp [hn, ← hl, rv.length]) hst fun h' hx => ?_
  have I1 : Inv X pins σ H { s with heap := h' } := I.kept (t' := s.toks) fun b o e => hx b o (Nat.ne_of_lt (Heap.lt_size e)) e
  exact h pins _ σ H xs _ Q I1 (by simpa using rv) hw
noncomputable def tAsg (te : TE) (g : TG) : TS := fun D σ H => te σ H fun x H1 => g x σ H1 D.nx
theorem ps_set {i : Nat} {x : Str} {e : Expr} {te : TE} {pos' : Pos} (hN : X.N.Nodup) (hi : X.N[i]? = some x) (hx : Loc X.env.scope x) (he : PE X e te) (hs : swapsWith e (some (.Name x pos')) pos.line X.env = pure false := by rfl) (hf : X.fn x = true ∨ X.env.scope.names.lookup x = some .local := by first | exact .inl rfl | exact .inr rfl | assumption) :
    PS X (.Assign [.Name x pos'] e pos) (tAsg te (gName i)) := by
  intro pins s σ H D I h
  refine wpAny_Assign_Name (thn (he pins s σ H _ I h) fun v s1 ⟨y, H1, I1, r1, q1⟩ => ?_) hs
  exact store_ok I1 hN hi hx r1 (fun s2 I2 => ⟨_, H1, I2, q1⟩) hf
noncomputable def tAug (i : Nat) (te : TE) (ti : TIp) : TS := fun D σ H => ∃ x, σ[i]? = some (some x) ∧ te σ H fun y H1 => ti x y H1 fun z H2 => D.nx (σ.set i (some z)) H2
theorem ps_aug {i : Nat} {x : Str} {e : Expr} {te : TE} {op : Operator} {ti : TIp} {pos' : Pos} (hN : X.N.Nodup) (hi : X.N[i]? = some x) (hx : Loc X.env.scope x) (he : PE X e te) (ho : PIp X op ti) (hf : X.fn x = true ∨ X.env.scope.names.lookup x = some .local := by first | exact .inl rfl | exact .inr rfl | assumption) :
    PS X (.AugAssign (.Name x pos') op e pos) (tAug i te ti) := by
  intro pins s σ H D I h
  obtain ⟨v, e1, h⟩ := h
  obtain ⟨m, hn, hl⟩ := I.loc
  have vis : Vis X.env.scope x := by rcases hx with k | k; exact .inl k; exact .inr (.inl k)
  obtain ⟨u, r, l⟩ := hl i x v hi e1 vis
  refine wpAny_AugAssign_Name ?_
  have go : wpAny (model X.prog X.w) X.A (eval e X.env) (fun w s₂ => wpAny (model X.prog X.w) X.A (inplaceOp op u w) (fun r s₃ => wpAny (model X.prog X.w) X.A (storeName X.env x r) (fun _ => SP X pins D .next) X.xe s₃) X.xe s₂) X.xe s := by
    refine thn (he pins s σ H _ I h) fun w s1 ⟨y, H1, I1, r1, q1⟩ => ?_
    refine thn (ho pins s1 σ H1 v y u w _ I1 r r1 q1) fun z s2 ⟨zv, H2, I2, r2, q2⟩ => ?_
    exact store_ok I2 hN hi hx r2 (fun s3 I3 => ⟨_, H2, I3, q2⟩) hf
  rcases l with ⟨hk, hm⟩ | ⟨hk, c, hc, hcell⟩
  · exact wpAny_loadName_local I.ok.kind hk hn hm go
  · rcases hk with hk | hk
    · exact wpAny_loadName_cell I.ok.kind hk hc hcell go
    · rcases hx with k | k
      · have : X.env.scope.names.lookup x = some .free := hk
        rw [k] at this; cases this
      · have : X.env.scope.names.lookup x = some .free := hk
        rw [k] at this; cases this
noncomputable def ipI (f : Int → Int → Int) : TIp := fun x y H Q => ∃ i j, x = .int i ∧ y = .int j ∧ Q (.int (f i j)) H
theorem ip_add : PIp X .Add (ipI fun i j => i + j) := by
  intro pins s σ H x y v u Q I r1 r2 h
  obtain ⟨i, j, e1, e2, q⟩ := h
  subst e1; subst e2
  obtain ⟨t, rfl⟩ := r1
  obtain ⟨t', rfl⟩ := r2
  exact iadd_int ⟨.int _, H, I.tok _, ⟨_, rfl⟩, q⟩
end
section
variable {X : Cx} {pos : Pos}
end
structure It where
  go : Nat → Hp → Prop
  yld : Nat → Hp → V → Hp → Prop
  stop : Nat → Hp → Prop
noncomputable def FpOk (X : Cx) (pins : List (Addr × Obj)) (H : Hp) (b : Addr) : Prop :=
  H b = none ∧ b ≠ X.env.locals ∧ b ∉ X.fs ∧ (b ∈ X.ex ∨ X.s₀.heap.objs.size ≤ b) ∧ (∀ x c, X.env.cells.lookup x = some c → c ≠ b) ∧ ∀ p ∈ X.pn ++ pins, p.1 ≠ b
theorem Inv.fpOk {X : Cx} {pins : List (Addr × Obj)} {σ : St} {H H' : Hp} {s : Shared} {b : Addr} (I : Inv X pins σ H s) (hb : s.heap.objs.size ≤ b) (hn : H' b = none) : FpOk X pins H' b := by
  refine ⟨hn, Nat.ne_of_gt (Nat.lt_of_lt_of_le I.lt hb), I.nofs hb, .inr (Nat.le_trans I.sz hb), fun x c e z => ?_, fun p hp z => ?_⟩
  · obtain ⟨v, q⟩ := I.cell x c e
    exact absurd (Nat.lt_of_lt_of_le q.lt (by rw [z]; exact hb)) (Nat.lt_irrefl _)
  · exact absurd (Nat.lt_of_lt_of_le (Heap.lt_size (I.pin p hp).1) (by rw [z]; exact hb)) (Nat.lt_irrefl _)
structure Turn (P : Program) (w : World) (K : PySem.W.Frag) (tg : Expr) (J : It) (fp : List Addr) (it : Addr) (tn : Nat → Heap → Prop) : Prop where
  mem : it ∈ fp
  obj : ∀ i h, tn i h → ∀ b ∈ fp, ∃ o, h.get? b = some o ∧ ∀ v, o.data ≠ .cell v
  keep : ∀ i h h', tn i h → (∀ b ∈ fp, ∀ o, h.get? b = some o → h'.get? b = some o) → tn i h'
  item : ∀ (X : Cx), X.prog = P → X.w = w → X.K = K → X.calm = true → ∀ (i : Nat) (pins : List (Addr × Obj)) (s : Shared) (σ : St) (H : Hp) (E : Value → Shared → Prop), Inv X pins σ H s → (∀ b ∈ fp, FpOk X pins H b) → tn i s.heap → J.go i H →
    wpAny (model P w) X.A (pyNext (.ref it)) (fun r s1 => ∃ u, r = some u ∧
      wpAny (model P w) X.A (letOwnedTupleGo tg (.ref it) u) (fun _ s2 => ∃ x H', Inv X pins σ H' s2 ∧ RelV x u ∧ J.yld i H x H' ∧ tn (i + 1) s2.heap ∧ ∀ b ∈ fp, H' b = none) E s1) E s
  done : ∀ (X : Cx), X.prog = P → X.w = w → X.K = K → X.calm = true → ∀ (i : Nat) (pins : List (Addr × Obj)) (s : Shared) (σ : St) (H : Hp) (E : Value → Shared → Prop), Inv X pins σ H s → (∀ b ∈ fp, FpOk X pins H b) → tn i s.heap → J.stop i H →
    wpAny (model P w) X.A (pyNext (.ref it)) (fun r s1 => r = none ∧ Inv X pins σ H s1) E s
  self : ∀ (A : Around) (i : Nat) (s : Shared) (Q : Value → Shared → Prop) (E : Value → Shared → Prop), tn i s.heap → Q (.ref it) s → wpAny (model P w) A (pyIter (.ref it)) Q E s
noncomputable abbrev TI := St → Hp → (It → Hp → Prop) → Prop
noncomputable def PIE (X : Cx) (pins : List (Addr × Obj)) (σ : St) (tg : Expr) (R : It → Hp → Prop) (itv : Value) (s2 : Shared) : Prop :=
  ∃ (it : Addr) (fp : List Addr) (tn : Nat → Heap → Prop) (J : It) (H' : Hp), itv = .ref it ∧ Inv X pins σ H' s2 ∧ Turn X.prog X.w X.K tg J fp it tn ∧ tn 0 s2.heap ∧ (∀ b ∈ fp, FpOk X pins H' b) ∧ R J H'
noncomputable def PI (X : Cx) (tg iter : Expr) (wi : TI) : Prop :=
  ∀ (pins : List (Addr × Obj)) (s : Shared) (σ : St) (H : Hp) (R : It → Hp → Prop), Inv X pins σ H s → wi σ H R →
    wpAny (model X.prog X.w) X.A (eval iter X.env) (fun v s1 => wpAny (model X.prog X.w) X.A (pyIter v) (PIE X pins σ tg R) X.xe s1) X.xe s
theorem go_of {M : Model} {A : Around} {E : Value → Shared → Prop} {s : Shared} {tg : Expr} {it : Addr} {u : Value} {o : Obj} {n : String} {vs : Array Value} {Q : Unit → Shared → Prop} (ho : s.heap.get? it = some o) (hc : o.cls = .type n) (hd : o.data = .fields vs)
    (hn : ["enumerate", "zip", "dict_itemiterator", "dict_reverseitemiterator", "odict_iterator", "itertools.zip_longest", "itertools.pairwise"].contains n = false) (hQ : Q () s) : wpAny M A (letOwnedTupleGo tg (.ref it) u) Q E s := by
  unfold letOwnedTupleGo
  cases tg <;> first
    | exact wpAny_pure hQ
    | (cases u <;> first
        | exact wpAny_pure hQ
        | (refine wpAny_bind (wpAny_load ho ?_)
           rw [hc, hd]
           show wpAny M A (if (["enumerate", "zip", "dict_itemiterator", "dict_reverseitemiterator", "odict_iterator", "itertools.zip_longest", "itertools.pairwise"].contains n && vs[0]? == some (rawInt _)) = true then _ else _) Q E s
           rw [if_neg (by intro h; rw [hn, Bool.false_and] at h; cases h)]
           exact wpAny_pure hQ))
noncomputable def Itl (K : PySem.W.Frag) (a : Addr) : It :=
  ⟨fun i H => ∃ xs x, SqL K H a xs ∧ xs[i]? = some x, fun i H x H' => H' = H ∧ ∀ xs, SqL K H a xs → xs[i]? = some x, fun i H => ∃ xs, SqL K H a xs ∧ xs.length ≤ i⟩
noncomputable def Itt (K : PySem.W.Frag) (a : Addr) : It :=
  ⟨fun i H => ∃ xs x, SqT K H a xs ∧ xs[i]? = some x, fun i H x H' => H' = H ∧ ∀ xs, SqT K H a xs → xs[i]? = some x, fun i H => ∃ xs, SqT K H a xs ∧ xs.length ≤ i⟩
noncomputable def Itr (lo : Int) (n : Nat) : It := ⟨fun i _ => i < n, fun i H x H' => H' = H ∧ x = .int (lo + i), fun i _ => n ≤ i⟩
theorem turn_list {P : Program} {w : World} {K : PySem.W.Frag} {tg : Expr} (a it : Addr) : Turn P w K tg (Itl K a) [it] it (fun i h => h.IsListIter it a i) where
  mem := by simp
  obj := fun i h st b hb => by
    have e : b = it := by simpa using hb
    subst e
    obtain ⟨o, e, c, d⟩ := st
    exact ⟨o, e, fun v z => by rw [d] at z; cases z⟩
  keep := fun i h h' st k => st.at fun o e => k it (by simp) o e
  item := by
    intro X hP hw hK hc i pins s σ H E I hf st hg
    subst hP hw hK
    obtain ⟨xs, x, hq, hx⟩ := hg
    obtain ⟨its, rv, p, hz⟩ := I.list hq
    obtain ⟨u, hu, ru⟩ := rv.get hx
    obtain ⟨f0, f1, f2, f3, f4, f5⟩ := hf it (by simp)
    refine wpAny_pyNext_list_item st p.isList (x := u) (by simpa using hu) fun h' st' sb => ?_
    have I1 : Inv X pins σ H { s with heap := h' } := I.turned (t' := s.toks) (fun b o hb e => (sb.2 b hb).trans e) f0 f1 f3 f4 f5
    obtain ⟨o, e, c, d⟩ := id st'
    exact ⟨u, rfl, go_of (s := { s with heap := h' }) e c d (by decide) ⟨x, H, I1, ru, ⟨rfl, fun ys hy => by rw [I.list_inj hy hq]; exact hx⟩, st', fun b hb => (hf b hb).1⟩⟩
  done := by
    intro X hP hw hK hc i pins s σ H E I hf st hg
    subst hP hw hK
    obtain ⟨xs, hq, hx⟩ := hg
    obtain ⟨its, rv, p, hz⟩ := I.list hq
    obtain ⟨f0, f1, f2, f3, f4, f5⟩ := hf it (by simp)
    have hl := rv.length
    exact next_list_end (I.hb hc) (I.hna hc f3 f5) st p.isList (by simp; omega) fun h' eb => ⟨rfl, I.turned (t' := s.toks) (fun b o hb e => eb b o hb e) f0 f1 f3 f4 f5⟩
  self := fun _ _ _ _ _ st h => wpAny_pyIter_listiter st h
theorem turn_tuple {P : Program} {w : World} {K : PySem.W.Frag} {tg : Expr} (a it : Addr) : Turn P w K tg (Itt K a) [it] it (fun i h => h.IsTupleIter it a i) where
  mem := by simp
  obj := fun i h st b hb => by
    have e : b = it := by simpa using hb
    subst e
    obtain ⟨o, e, c, d⟩ := st
    exact ⟨o, e, fun v z => by rw [d] at z; cases z⟩
  keep := fun i h h' st k => st.at fun o e => k it (by simp) o e
  item := by
    intro X hP hw hK hc i pins s σ H E I hf st hg
    subst hP hw hK
    obtain ⟨xs, x, hq, hx⟩ := hg
    obtain ⟨its, rv, p, hz⟩ := I.tuple hq
    obtain ⟨u, hu, ru⟩ := rv.get hx
    obtain ⟨f0, f1, f2, f3, f4, f5⟩ := hf it (by simp)
    refine wpAny_pyNext_tuple_item st (show s.heap.IsTuple a its.toArray from p) (x := u) (by simpa using hu) fun h' st' sb => ?_
    have I1 : Inv X pins σ H { s with heap := h' } := I.turned (t' := s.toks) (fun b o hb e => (sb.2 b hb).trans e) f0 f1 f3 f4 f5
    obtain ⟨o, e, c, d⟩ := id st'
    exact ⟨u, rfl, go_of (s := { s with heap := h' }) e c d (by decide) ⟨x, H, I1, ru, ⟨rfl, fun ys hy => by rw [I.tuple_inj hy hq]; exact hx⟩, st', fun b hb => (hf b hb).1⟩⟩
  done := by
    intro X hP hw hK hc i pins s σ H E I hf st hg
    subst hP hw hK
    obtain ⟨xs, hq, hx⟩ := hg
    obtain ⟨its, rv, p, hz⟩ := I.tuple hq
    obtain ⟨f0, f1, f2, f3, f4, f5⟩ := hf it (by simp)
    have hl := rv.length
    exact next_tuple_end (I.hb hc) (I.hna hc f3 f5) st (show s.heap.IsTuple a its.toArray from p) (by simp; omega) fun h' eb => ⟨rfl, I.turned (t' := s.toks) (fun b o hb e => eb b o hb e) f0 f1 f3 f4 f5⟩
  self := fun _ _ _ _ _ st h => wpAny_pyIter_tupleiter st h
theorem turn_range {P : Program} {w : World} {K : PySem.W.Frag} {tg : Expr} (it : Addr) (lo : Int) (n : Nat) : Turn P w K tg (Itr lo n) [it] it (fun i h => IsRangeIter h it (lo + (i : Nat) * 1) ((n : Int) - (i : Nat)) 1) where
  mem := by simp
  obj := fun i h st b hb => by
    have e : b = it := by simpa using hb
    subst e
    exact ⟨_, st, fun v z => by
      have z' : Data.fields _ = Data.cell v := z
      cases z'⟩
  keep := fun i h h' st k => k it (by simp) _ st
  item := by
    intro X hP hw hK hc i pins s σ H E I hf st hg
    subst hP hw hK
    obtain ⟨f0, f1, f2, f3, f4, f5⟩ := hf it (by simp)
    refine range_item hg st fun v h' tk hv st' kk => ?_
    obtain ⟨t, rfl⟩ := hv
    have I1 : Inv X pins σ H { s with heap := h', toks := tk } := I.turned (fun b o hb e => kk b o (by simpa using hb) e) f0 f1 f3 f4 f5
    refine ⟨_, rfl, go_of (s := { s with heap := h', toks := tk }) (n := "range_iterator") st' rfl rfl (by decide) ⟨.int (lo + i), H, I1, ⟨t, ?_⟩, ⟨rfl, rfl⟩, st', fun b hb => (hf b hb).1⟩⟩
    rw [Int.mul_one]
  done := by
    intro X hP hw hK hc i pins s σ H E I hf st hg
    subst hP hw hK
    obtain ⟨f0, f1, f2, f3, f4, f5⟩ := hf it (by simp)
    exact next_range_end (I.hb hc) st (by have : n ≤ i := hg; omega) fun h' eb => ⟨rfl, I.turned (t' := s.toks) (fun b o hb e => eb b o hb e) f0 f1 f3 f4 f5⟩
  self := fun _ _ _ _ _ st h => wpAny_pyIter_rangeiter st h
end L2
namespace L2
open PySem PySem.Spec PyProof.Rows
section
variable {X : Cx} {tg : Expr}
noncomputable def iList (K : PySem.W.Frag) (tl : TE) : TI := fun σ H R => tl σ H fun x H1 => ∃ a, x = .ref a ∧ (∃ xs, SqL K H1 a xs) ∧ R (Itl K a) H1
noncomputable def iTup (K : PySem.W.Frag) (tl : TE) : TI := fun σ H R => tl σ H fun x H1 => ∃ a, x = .ref a ∧ (∃ xs, SqT K H1 a xs) ∧ R (Itt K a) H1
theorem pi_list {l : Expr} {tl : TE} (hl : PE X l tl) : PI X tg l (iList X.K tl) := by
  intro pins s σ H R I h
  refine thn (hl pins s σ H _ I h) fun v s1 ⟨x, H1, I1, r1, q1⟩ => ?_
  obtain ⟨a, e, ⟨xs, hq⟩, q⟩ := q1
  subst e
  cases r1
  obtain ⟨its, rv, p, hz⟩ := I1.list hq
  refine wpAny_pyIter_list p.isList ?_
  refine ⟨s1.heap.objs.size, [s1.heap.objs.size], _, _, H1, rfl, I1.kept (t' := s1.toks) fun b o e => Heap.get?_push_of_some _ e, turn_list a _, ⟨_, Heap.get?_push_size _ rfl, rfl, rfl⟩, fun b hb => ?_, q⟩
  have e : b = s1.heap.objs.size := by simpa using hb
  subst e
  exact I1.fpOk (Nat.le_refl _) (I1.hok.fresh (Nat.le_refl _))
theorem pi_tup {l : Expr} {tl : TE} (hl : PE X l tl) : PI X tg l (iTup X.K tl) := by
  intro pins s σ H R I h
  refine thn (hl pins s σ H _ I h) fun v s1 ⟨x, H1, I1, r1, q1⟩ => ?_
  obtain ⟨a, e, ⟨xs, hq⟩, q⟩ := q1
  subst e
  cases r1
  obtain ⟨its, rv, p, hz⟩ := I1.tuple hq
  refine wpAny_pyIter_tuple (show s1.heap.IsTuple a its.toArray from p) ?_
  refine ⟨s1.heap.objs.size, [s1.heap.objs.size], _, _, H1, rfl, I1.kept (t' := s1.toks) fun b o e => Heap.get?_push_of_some _ e, turn_tuple a _, ⟨_, Heap.get?_push_size _ rfl, rfl, rfl⟩, fun b hb => ?_, q⟩
  have e : b = s1.heap.objs.size := by simpa using hb
  subst e
  exact I1.fpOk (Nat.le_refl _) (I1.hok.fresh (Nat.le_refl _))
theorem range_it {pins : List (Addr × Obj)} {σ : St} {H : Hp} {s : Shared} {R : It → Hp → Prop} {E : Value → Shared → Prop} {lo hi : Int} {t u v : Tok} {tk : Nat} (I : Inv X pins σ H s) (h1 : -(2 ^ 62) ≤ lo) (h2 : lo < 2 ^ 62) (h3 : -(2 ^ 62) ≤ hi) (h4 : hi < 2 ^ 62)
    (q : R (Itr lo (hi - lo).toNat) H) : wpAny (model X.prog X.w) X.A (pyIter (.ref s.heap.objs.size)) (PIE X pins σ tg R) E { s with heap := s.heap.push { cls := .type "range", data := .fields #[.int lo t, .int hi u, .int 1 v] }, toks := tk } := by
  refine wpAny_pyIter_range (IsRange.new ..) (small_one h1 h2 h3 h4) ?_
  have I1 : Inv X pins σ H { s with heap := s.heap.push { cls := .type "range", data := .fields #[.int lo t, .int hi u, .int 1 v] }, toks := tk } := I.kept fun b o e => Heap.get?_push_of_some _ e
  refine ⟨(s.heap.push { cls := .type "range", data := .fields #[.int lo t, .int hi u, .int 1 v] }).objs.size, [(s.heap.push { cls := .type "range", data := .fields #[.int lo t, .int hi u, .int 1 v] }).objs.size], _, _, H, rfl,
    I1.kept (t' := tk) fun b o e => Heap.get?_push_of_some _ e, turn_range _ lo (hi - lo).toNat, ?_, fun b hb => ?_, q⟩
  · have e1 : lo + ((0 : Nat) : Int) * 1 = lo := by simp
    have e2 : (((hi - lo).toNat : Nat) : Int) - ((0 : Nat) : Int) = Builtin.Range.rangeSize lo hi 1 := by rw [rangeSize_one]; split <;> omega
    show IsRangeIter _ _ (lo + ((0 : Nat) : Int) * 1) ((((hi - lo).toNat : Nat) : Int) - ((0 : Nat) : Int)) 1
    rw [e1, e2]
    exact Heap.get?_push_size _ rfl
  · have e : b = (s.heap.push { cls := .type "range", data := .fields #[.int lo t, .int hi u, .int 1 v] }).objs.size := by simpa using hb
    subst e
    exact I1.fpOk (Nat.le_refl _) (I1.hok.fresh (Nat.le_refl _))
noncomputable def iRng1 (ta : TA) : TI := fun σ H R => ta σ H fun vs H1 => ∃ j : Int, vs = [.int j] ∧ -(2 ^ 62) ≤ j ∧ j < 2 ^ 62 ∧ R (Itr 0 j.toNat) H1
theorem pi_range1 {a : Expr} {ta : TA} {p pos : Pos} (hg : Gl X "range") (hm : X.mg "range" = none) (ha : PA X [a] ta) (hs : starEach [a] X.env = [(false, eval a X.env)] := by rfl) : PI X tg (.Call (.Name "range" p) [a] [] pos) (iRng1 ta) := by
  intro pins s σ H R I h
  refine Call_ (ld_blt I hg hm boot_range (PyProof.Rows.callWith_type1 (thn (ha pos pins s σ H _ I h) fun us s1 ⟨vs, H1, I1, r1, q1⟩ => ?_) hs rfl))
  obtain ⟨j, e, q1, q2, q⟩ := q1
  subst e
  cases r1 with
  | cons r rr =>
    cases rr
    obtain ⟨t, rfl⟩ := r
    exact call_range_1 (range_it I1 (by omega) (by omega) q1 q2 (by simpa using q))
noncomputable def tFor (wi : TI) (g : TG) (tb : TS) : TS := fun D σ H => wi σ H fun J H1 => ∃ W : Nat → Nat → St → Hp → Prop, (∃ m, W 0 m σ H1) ∧ ∀ i m σ H, W i m σ H →
  (J.stop i H ∧ D.nx σ H) ∨ (J.go i H ∧ ∃ N : St → Hp → Prop, (∀ σ' H', N σ' H' → ∃ m', m' < m ∧ W (i + 1) m' σ' H') ∧ ∀ x H', J.yld i H x H' → g x σ H' fun σ2 H2 => tb { D with nx := N, ct := N, bk := D.nx } σ2 H2)
noncomputable def pinsAt (fp : List Addr) (h : Heap) : List (Addr × Obj) := fp.filterMap fun b => (h.get? b).map fun o => (b, o)
theorem mem_pinsAt {fp : List Addr} {h : Heap} {b : Addr} {o : Obj} (hb : b ∈ fp) (e : h.get? b = some o) : (b, o) ∈ pinsAt fp h := List.mem_filterMap.mpr ⟨b, hb, by rw [e]; rfl⟩
theorem of_pinsAt {fp : List Addr} {h : Heap} {p : Addr × Obj} (hp : p ∈ pinsAt fp h) : p.1 ∈ fp ∧ h.get? p.1 = some p.2 := by
  obtain ⟨b, hb, e⟩ := List.mem_filterMap.mp hp
  cases q : h.get? b with
  | none => rw [q] at e; cases e
  | some o =>
    rw [q] at e
    have e' : (b, o) = p := Option.some.inj e
    subst e'
    exact ⟨hb, q⟩
theorem Inv.pinned {pins : List (Addr × Obj)} {σ : St} {H : Hp} {s : Shared} {fp : List Addr} (I : Inv X pins σ H s) (hf : ∀ b ∈ fp, FpOk X pins H b) (ho : ∀ b ∈ fp, ∃ o, s.heap.get? b = some o ∧ ∀ v, o.data ≠ .cell v) : Inv X (pins ++ pinsAt fp s.heap) σ H s :=
  I.pins_of fun p hp => (List.mem_append.mp hp).elim (fun z => I.pin p (List.mem_append_right _ z)) fun z => by
    obtain ⟨hb, e⟩ := of_pinsAt z
    obtain ⟨f0, f1, f2, _⟩ := hf p.1 hb
    obtain ⟨o, e', d⟩ := ho p.1 hb
    rw [e] at e'; cases e'
    exact ⟨e, f0, f1, f2, d⟩
theorem Inv.unpinned {pins pl : List (Addr × Obj)} {σ : St} {H : Hp} {s : Shared} (I : Inv X (pins ++ pl) σ H s) : Inv X pins σ H s := I.pins_of fun p hp => I.pin p (List.mem_append_right _ (List.mem_append_left _ hp))
theorem ps_for {iter : Expr} {body : List Stmt} {wi : TI} {g : TG} {tb : TS} {pos : Pos} (hp : PassesOwn (model X.prog X.w) X.A X.env X.xe) (hc : X.calm = true) (hi : PI X tg iter wi) (hg : PG X tg g) (hb : PSs X body tb)
    (hs : ∀ x, foldedSetIterable iter X.env x = pure x := by intro _; rfl) : PS X (.For tg iter body [] pos) (tFor wi g tb) := by
  intro pins s σ H D I h
  refine wpAny_For (thn (hi pins s σ H _ I h) fun v s1 h1 => thn h1 fun itv s2 h2 => ?_) hs
  obtain ⟨it, fp, tn, J, H2, e, I2, T, st2, f2, W, ⟨m0, w0⟩, turn⟩ := h2
  subst e
  -- what stays true of the iterator's objects through the loop
  have stat : ∀ {H' : Hp}, (∀ b ∈ fp, H' b = none) → ∀ b ∈ fp, FpOk X pins H' b := fun hn b hb => ⟨hn b hb, (f2 b hb).2⟩
  refine codeAny_forLoop_any (fun n s' => ∃ i σ' H', Inv X pins σ' H' s' ∧ tn i s'.heap ∧ (∀ b ∈ fp, H' b = none) ∧ W i n σ' H') ?_ m0 ⟨0, σ, H2, I2, st2, fun b hb => (f2 b hb).1, w0⟩
  rintro n s3 ⟨i, σ3, H3, I3, st3, fr3, w3⟩
  rcases turn i n σ3 H3 w3 with ⟨stop, qn⟩ | ⟨go, N, hN, step⟩
  · refine wpAny_passesOwn hp (thn (T.done X rfl rfl rfl hc i pins s3 σ3 H3 X.xe I3 (stat fr3) st3 stop) fun r s4 ⟨hr, I4⟩ => ?_)
    subst hr
    exact wpAny_execs_nil ⟨σ3, H3, I4, qn⟩
  · refine wpAny_passesOwn hp (thn (T.item X rfl rfl rfl hc i pins s3 σ3 H3 X.xe I3 (stat fr3) st3 go) fun r s4 ⟨u, hr, h4⟩ => ?_)
    subst hr
    refine wpAny_passesOwn hp (thn h4 fun _ s5 ⟨x, H5, I5, r5, y5, st5, fr5⟩ => ?_)
    have I5' := I5.pinned (stat fr5) (T.obj _ _ st5)
    refine wpAny_passesOwn hp (thn (hg _ s5 σ3 H5 x u _ I5' r5 (step x H5 y5)) fun _ s6 ⟨σ6, H6, I6, q6⟩ => ?_)
    refine wpAny_passesOwn hp (thn (hb _ s6 σ6 H6 _ I6 q6) fun f s7 q7 => ?_)
    have again : ∀ {σ7 : St} {H7 : Hp}, Inv X (pins ++ pinsAt fp s5.heap) σ7 H7 s7 → N σ7 H7 → ∃ m, m < n ∧ ∃ i σ' H', Inv X pins σ' H' s7 ∧ tn i s7.heap ∧ (∀ b ∈ fp, H' b = none) ∧ W i m σ' H' := fun {σ7 H7} I7 n7 => by
      obtain ⟨m', hm, w7⟩ := hN σ7 H7 n7
      refine ⟨m', hm, i + 1, σ7, H7, I7.unpinned, T.keep _ _ _ st5 fun b hb o e => (I7.pin (b, o) (List.mem_append_right _ (List.mem_append_right _ (mem_pinsAt hb e)))).1, fun b hb => ?_, w7⟩
      obtain ⟨o, e, d⟩ := T.obj _ _ st5 b hb
      exact (I7.pin (b, o) (List.mem_append_right _ (List.mem_append_right _ (mem_pinsAt hb e)))).2.1
    cases f with
    | next => obtain ⟨σ7, H7, I7, n7⟩ := q7; exact again I7 n7
    | cont => obtain ⟨σ7, H7, I7, n7⟩ := q7; exact again I7 n7
    | brk => obtain ⟨σ7, H7, I7, q7⟩ := q7; exact ⟨σ7, H7, I7.unpinned, q7⟩
    | ret v => obtain ⟨x7, σ7, H7, I7, r7, q7⟩ := q7; exact ⟨x7, σ7, H7, I7.unpinned, r7, q7⟩
end
theorem for_list {K : PySem.W.Frag} {a : Addr} {xs : List V} {g : TG} {tb : TS} {D : Ends} {σ : St} {H : Hp} (Pv : Nat → St → Hp → Prop) (h0 : Pv 0 σ H) (hl : ∀ i σ H, i ≤ xs.length → Pv i σ H → SqL K H a xs)
    (hs : ∀ i x σ H, xs[i]? = some x → Pv i σ H → g x σ H fun σ2 H2 => tb { D with nx := Pv (i + 1), ct := Pv (i + 1), bk := D.nx } σ2 H2) (hd : ∀ σ H, Pv xs.length σ H → D.nx σ H) :
    ∃ W : Nat → Nat → St → Hp → Prop, (∃ m, W 0 m σ H) ∧ ∀ i m σ H, W i m σ H →
      ((Itl K a).stop i H ∧ D.nx σ H) ∨ ((Itl K a).go i H ∧ ∃ N : St → Hp → Prop, (∀ σ' H', N σ' H' → ∃ m', m' < m ∧ W (i + 1) m' σ' H') ∧ ∀ x H', (Itl K a).yld i H x H' → g x σ H' fun σ2 H2 => tb { D with nx := N, ct := N, bk := D.nx } σ2 H2) := by
  refine ⟨fun i m σ H => m = xs.length - i ∧ i ≤ xs.length ∧ Pv i σ H, ⟨xs.length, by simp, Nat.zero_le _, h0⟩, ?_⟩
  rintro i m σ H ⟨rfl, hi, p⟩
  have q := hl i σ H hi p
  by_cases hlt : i < xs.length
  · refine .inr ⟨⟨xs, xs[i], q, by simp [hlt]⟩, Pv (i + 1), fun σ' H' p' => ⟨xs.length - (i + 1), by omega, rfl, hlt, p'⟩, fun x H' y => ?_⟩
    obtain ⟨e, y⟩ := y
    subst e
    exact hs i x σ _ (y xs q) p
  · have e : i = xs.length := by omega
    subst e
    exact .inl ⟨⟨xs, q, Nat.le_refl _⟩, hd σ H p⟩
theorem for_range {lo : Int} {n : Nat} {g : TG} {tb : TS} {D : Ends} {σ : St} {H : Hp} (Pv : Nat → St → Hp → Prop) (h0 : Pv 0 σ H)
    (hs : ∀ i σ H, i < n → Pv i σ H → g (.int (lo + i)) σ H fun σ2 H2 => tb { D with nx := Pv (i + 1), ct := Pv (i + 1), bk := D.nx } σ2 H2) (hd : ∀ σ H, Pv n σ H → D.nx σ H) :
    ∃ W : Nat → Nat → St → Hp → Prop, (∃ m, W 0 m σ H) ∧ ∀ i m σ H, W i m σ H →
      ((Itr lo n).stop i H ∧ D.nx σ H) ∨ ((Itr lo n).go i H ∧ ∃ N : St → Hp → Prop, (∀ σ' H', N σ' H' → ∃ m', m' < m ∧ W (i + 1) m' σ' H') ∧ ∀ x H', (Itr lo n).yld i H x H' → g x σ H' fun σ2 H2 => tb { D with nx := N, ct := N, bk := D.nx } σ2 H2) := by
  refine ⟨fun i m σ H => m = n - i ∧ i ≤ n ∧ Pv i σ H, ⟨n, by simp, Nat.zero_le _, h0⟩, ?_⟩
  rintro i m σ H ⟨rfl, hi, p⟩
  by_cases hlt : i < n
  · refine .inr ⟨hlt, Pv (i + 1), fun σ' H' p' => ⟨n - (i + 1), by omega, rfl, hlt, p'⟩, fun x H' y => ?_⟩
    obtain ⟨e, y⟩ := y
    subst e y
    exact hs i σ _ hlt p
  · have e : i = n := by omega
    subst e
    exact .inl ⟨Nat.le_refl _, hd σ H p⟩
end L2
namespace L2
open PySem PySem.Spec PyProof.Rows
noncomputable abbrev R2 := V → V → Hp → VK → Prop
noncomputable def OpR (X : Cx) (f : Value → Value → Sem Value) (r : R2) : Prop :=
  ∀ (pins : List (Addr × Obj)) (s : Shared) (σ : St) (H : Hp) (x y : V) (v u : Value) (Q : VK), Inv X pins σ H s → RelV x v → RelV y u → r x y H Q →
    wpAny (model X.prog X.w) X.A (f v u) (EP X pins σ Q) X.xe s
noncomputable def CallR (X : Cx) (f : Value) (r : List V → Hp → VK → Prop) : Prop :=
  ∀ (pins : List (Addr × Obj)) (s : Shared) (σ : St) (H : Hp) (xs : List V) (us : List Value) (Q : VK), Inv X pins σ H s → Vals xs us → r xs H Q →
    wpAny (model X.prog X.w) X.A (call f us) (EP X pins σ Q) X.xe s
noncomputable def tOp (r : R2) (ta tb : TE) : TE := fun σ H Q => ta σ H fun x H1 => tb σ H1 fun y H2 => r x y H2 Q
noncomputable def rI (C : Int → Int → Prop) (g : Int → Int → V) : R2 := fun x y H Q => ∃ i j, x = .int i ∧ y = .int j ∧ C i j ∧ Q (g i j) H
noncomputable def rI0 (g : Int → Int → V) : R2 := fun x y H Q => ∃ i j, x = .int i ∧ y = .int j ∧ Q (g i j) H
section
variable {X : Cx} {a b c : Expr} {ta tb tc : TE} {pos : Pos}
theorem binT (ha : PE X a ta) (hb : PE X b tb) {pins : List (Addr × Obj)} {s : Shared} {σ : St} {H : Hp} {R : V → V → Hp → Prop} (I : Inv X pins σ H s)
    (h : ta σ H fun x H1 => tb σ H1 fun y H2 => R x y H2) {Q : Value → Shared → Prop} {f : Value → Value → Sem Value}
    (hf : ∀ v u s2 x y H2, Inv X pins σ H2 s2 → RelV x v → RelV y u → R x y H2 → wpAny (model X.prog X.w) X.A (f v u) Q X.xe s2) :
    wpAny (model X.prog X.w) X.A (eval a X.env) (fun v s₁ => wpAny (model X.prog X.w) X.A (eval b X.env) (fun u s₂ => wpAny (model X.prog X.w) X.A (f v u) Q X.xe s₂) X.xe s₁) X.xe s := by
  refine thn (ha pins s σ H _ I h) fun v s1 ⟨x, H1, I1, r1, q1⟩ => ?_
  refine thn (hb pins s1 σ H1 _ I1 q1) fun u s2 ⟨y, H2, I2, r2, q2⟩ => ?_
  exact hf v u s2 x y H2 I2 r1 r2 q2
theorem pe_op {op : Operator} {r : R2} (ho : OpR X (binaryOp op) r) (ha : PE X a ta) (hb : PE X b tb) : PE X (.BinOp a op b pos) (tOp r ta tb) := by
  intro pins s σ H Q I h
  exact wpAny_BinOp (binT ha hb I h fun v u s2 x y H2 I2 rx ry q => ho pins s2 σ H2 x y v u Q I2 rx ry q)
theorem opI {f : Value → Value → Sem Value} {C : Int → Int → Prop} {g : Int → Int → Int}
    (rule : ∀ (i j : Int) (t u : Tok) (s : Shared) (Q : Value → Shared → Prop) (E : Value → Shared → Prop), C i j → Q (.int (g i j) s.toks) { s with toks := s.toks + 1 } → wpAny (model X.prog X.w) X.A (f (.int i t) (.int j u)) Q E s) :
    OpR X f (rI C fun i j => .int (g i j)) := by
  intro pins s σ H x y v u Q I rx ry h
  obtain ⟨i, j, rfl, rfl, hc, q⟩ := h
  obtain ⟨t, rfl⟩ := rx
  obtain ⟨t', rfl⟩ := ry
  exact rule i j t t' s _ _ hc ⟨.int (g i j), H, I.tok _, ⟨_, rfl⟩, q⟩
theorem opI0 {f : Value → Value → Sem Value} {g : Int → Int → Int}
    (rule : ∀ (i j : Int) (t u : Tok) (s : Shared) (Q : Value → Shared → Prop) (E : Value → Shared → Prop), Q (.int (g i j) s.toks) { s with toks := s.toks + 1 } → wpAny (model X.prog X.w) X.A (f (.int i t) (.int j u)) Q E s) :
    OpR X f (rI0 fun i j => .int (g i j)) := by
  intro pins s σ H x y v u Q I rx ry h
  obtain ⟨i, j, rfl, rfl, q⟩ := h
  obtain ⟨t, rfl⟩ := rx
  obtain ⟨t', rfl⟩ := ry
  exact rule i j t t' s _ _ ⟨.int (g i j), H, I.tok _, ⟨_, rfl⟩, q⟩
theorem opB0 {f : Value → Value → Sem Value} {g : Int → Int → Bool}
    (rule : ∀ (i j : Int) (t u : Tok) (s : Shared) (Q : Value → Shared → Prop) (E : Value → Shared → Prop), Q (.bool (g i j)) s → wpAny (model X.prog X.w) X.A (f (.int i t) (.int j u)) Q E s) :
    OpR X f (rI0 fun i j => .bl (g i j)) := by
  intro pins s σ H x y v u Q I rx ry h
  obtain ⟨i, j, rfl, rfl, q⟩ := h
  obtain ⟨t, rfl⟩ := rx
  obtain ⟨t', rfl⟩ := ry
  exact rule i j t t' s _ _ ⟨.bl (g i j), H, I, rfl, q⟩
noncomputable def CDiv (i j : Int) : Prop := 0 < j ∧ j < 1073741824
noncomputable def CMul (i j : Int) : Prop := (-(2 ^ 64) < i ∧ i < 2 ^ 64) ∨ (-(2 ^ 64) < j ∧ j < 2 ^ 64)
theorem CMul.ok {i j : Int} (h : CMul i j) : IntMulOk i j := by
  rcases h with ⟨h1, h2⟩ | ⟨h1, h2⟩
  · exact .of_left (intBits_le_64 h1 h2)
  · exact .of_right (intBits_le_64 h1 h2)
theorem op_add : OpR X (binaryOp .Add) (rI0 fun i j => .int (i + j)) := opI0 fun _ _ _ _ _ _ _ q => add_int q
theorem op_sub : OpR X (binaryOp .Sub) (rI0 fun i j => .int (i - j)) := opI0 fun _ _ _ _ _ _ _ q => sub_int q
theorem op_mul : OpR X (binaryOp .Mult) (rI CMul fun i j => .int (i * j)) := opI fun _ _ _ _ _ _ _ hc q => mul_int q hc.ok
theorem op_fdiv : OpR X (binaryOp .FloorDiv) (rI CDiv fun i j => .int (i / j)) := opI fun i j _ _ _ _ _ hc q => by
  have h1 : (0 : Int) < j := hc.1
  have h2 : j < 1073741824 := hc.2
  exact floordiv_int (by omega) (by rw [Int.fdiv_eq_ediv_of_nonneg i (by omega)]; exact q) (.inl (PyProof.noPylong_small (by omega)))
theorem op_mod : OpR X (binaryOp .Mod) (rI (fun _ j => 0 < j) fun i j => .int (i % j)) := opI fun i j _ _ _ _ _ hc q => by
  have h1 : (0 : Int) < j := hc
  exact mod_int' (by omega) (by rw [Int.fmod_eq_emod_of_nonneg i (by omega)]; exact q)
end
noncomputable def scal : V → V → Bool
  | .non, .non => true | .non, .int _ => true | .int _, .non => true | .non, .bl _ => true | .bl _, .non => true | .non, .str _ => true | .str _, .non => true
  | .int _, .int _ => true | .bl _, .bl _ => true | .str _, .str _ => true | .byt _, .byt _ => true
  | .int _, .str _ => true | .str _, .int _ => true | .bl _, .str _ => true | .str _, .bl _ => true
  | _, _ => false
noncomputable def rEq : R2 := fun x y H Q => scal x y = true ∧ Q (.bl (decide (x = y))) H
theorem dec_int {i j : Int} : decide (V.int i = V.int j) = (i == j) := by
  rw [Bool.eq_iff_iff]
  simp
theorem dec_bl {i j : Bool} : decide (V.bl i = V.bl j) = (i == j) := by
  rw [Bool.eq_iff_iff]
  simp
theorem dec_str {i j : Str} : decide (V.str i = V.str j) = (i == j) := by
  rw [Bool.eq_iff_iff]
  simp
theorem dec_byt {i j : Array UInt8} : decide (V.byt i = V.byt j) = (i.toList == j.toList) := by
  rw [Bool.eq_iff_iff]
  cases i
  cases j
  simp
section
variable {X : Cx} {a b c : Expr} {ta tb tc : TE} {pos : Pos}
theorem fin_bl {pins : List (Addr × Obj)} {σ : St} {H : Hp} {s : Shared} {Q : VK} {k k' : Bool} (I : Inv X pins σ H s) (q : Q (.bl k) H) (e : k = k') : EP X pins σ Q (.bool k') s := by
  subst e
  exact ⟨.bl k, H, I, rfl, q⟩
theorem op_eq : OpR X (compareOp .Eq) rEq := by
  intro pins s σ H x y v u Q I rx ry h
  obtain ⟨hs, q⟩ := h
  cases x with
  | non =>
    cases rx
    cases y with
    | non => cases ry; exact PySem.EqNone.eq_none_none (fin_bl I q (by simp))
    | bl j => cases ry; exact PySem.EqNone.eq_none_bool (fin_bl I q (by simp))
    | int j => obtain ⟨t', rfl⟩ := ry; exact PySem.EqNone.eq_none_int (fin_bl I q (by simp))
    | str j => obtain ⟨t', rfl⟩ := ry; exact PySem.EqNone.eq_none_str (fin_bl I q (by simp))
    | _ => exact absurd (show false = true from hs) Bool.false_ne_true
  | bl i =>
    cases rx
    cases y with
    | non => cases ry; exact PySem.EqNone.eq_bool_none (fin_bl I q (by simp))
    | bl j => cases ry; exact eq_bool (fin_bl I q dec_bl)
    | str j => obtain ⟨t', rfl⟩ := ry; exact PySem.EqMixed.eq_bool_str (fin_bl I q (by simp))
    | _ => exact absurd (show false = true from hs) Bool.false_ne_true
  | int i =>
    obtain ⟨t, rfl⟩ := rx
    cases y with
    | non => cases ry; exact PySem.EqNone.eq_int_none (fin_bl I q (by simp))
    | int j => obtain ⟨t', rfl⟩ := ry; exact eq_int (fin_bl I q dec_int)
    | str j => obtain ⟨t', rfl⟩ := ry; exact PySem.EqMixed.eq_int_str (fin_bl I q (by simp))
    | _ => exact absurd (show false = true from hs) Bool.false_ne_true
  | str i =>
    obtain ⟨t, rfl⟩ := rx
    cases y with
    | non => cases ry; exact PySem.EqNone.eq_str_none (fin_bl I q (by simp))
    | bl j => cases ry; exact PySem.EqMixed.eq_str_bool (fin_bl I q (by simp))
    | int j => obtain ⟨t', rfl⟩ := ry; exact PySem.EqMixed.eq_str_int (fin_bl I q (by simp))
    | str j => obtain ⟨t', rfl⟩ := ry; exact eq_str (fin_bl I q dec_str)
    | _ => exact absurd (show false = true from hs) Bool.false_ne_true
  | byt i =>
    obtain ⟨t, rfl⟩ := rx
    cases y with
    | byt j => obtain ⟨t', rfl⟩ := ry; exact PySem.W.eq_bytes (fin_bl I q dec_byt)
    | _ => exact absurd (show false = true from hs) Bool.false_ne_true
  | _ => cases y <;> exact absurd (show false = true from hs) Bool.false_ne_true
theorem op_lt : OpR X (compareOp .Lt) (rI0 fun i j => .bl (decide (i < j))) := opB0 fun _ _ _ _ _ _ _ q => lt_int q
theorem op_le : OpR X (compareOp .LtE) (rI0 fun i j => .bl (decide (i ≤ j))) := opB0 fun _ _ _ _ _ _ _ q => le_int q
theorem op_gt : OpR X (compareOp .Gt) (rI0 fun i j => .bl (decide (j < i))) := opB0 fun _ _ _ _ _ _ _ q => gt_int q
theorem op_ge : OpR X (compareOp .GtE) (rI0 fun i j => .bl (decide (j ≤ i))) := opB0 fun _ _ _ _ _ _ _ q => ge_int q
theorem nomark (b : Expr) {op : CmpOp} (h : op ≠ .In := by decide) (h2 : op ≠ .NotIn := by decide) : behindInMarks op b = false := by
  have e1 : (op == CmpOp.In) = false := by cases op <;> first | rfl | exact absurd rfl h
  have e2 : (op == CmpOp.NotIn) = false := by cases op <;> first | rfl | exact absurd rfl h2
  cases b <;> simp [behindInMarks, e1, e2]
theorem pe_cmpR {op : CmpOp} {r : R2} (ho : OpR X (compareOp op) r) (ha : PE X a ta) (hb : PE X b tb) (hm : behindInMarks op b = false) : PE X (.Compare a [op] [b] pos) (tOp r ta tb) := by
  intro pins s σ H Q I h
  exact wpAny_Compare1 (binT ha hb I h fun v u s2 x y H2 I2 rx ry q => ho pins s2 σ H2 x y v u Q I2 rx ry q) hm
noncomputable def tTest (t : TE) : TT := fun σ H Q => t σ H fun x H' => ∃ k, x = .bl k ∧ Q k H'
theorem pt_cmpR {op : CmpOp} {r : R2} (ho : OpR X (compareOp op) r) (ha : PE X a ta) (hb : PE X b tb) (hm : behindInMarks op b = false) : PT X (.Compare a [op] [b] pos) (tTest (tOp r ta tb)) := by
  intro pins s σ H Q I h
  refine wpAny_isTrue_Compare1 (thn (ha pins s σ H _ I h) fun v s1 ⟨x, H1, I1, r1, q1⟩ => thn (hb pins s1 σ H1 _ I1 q1) fun u s2 ⟨y, H2, I2, r2, q2⟩ =>
    thn (ho pins s2 σ H2 x y v u _ I2 r1 r2 q2) fun c s3 ⟨z, H3, I3, r3, k, e, q3⟩ => ?_) hm
  subst e
  cases r3
  exact wpAny_truthy_bool ⟨H3, I3, q3⟩
noncomputable def tChain (r r' : R2) (ta tb tc : TE) : TE := fun σ H Q => ta σ H fun x H1 => tb σ H1 fun y H2 => r x y H2 fun z H3 => ∃ k, z = .bl k ∧
  (if k = true then tc σ H3 fun w' H4 => r' y w' H4 Q else Q (.bl false) H3)
theorem pt_chain {op op' : CmpOp} {r r' : R2} (ho : OpR X (compareOp op) r) (ho' : OpR X (compareOp op') r') (ha : PE X a ta) (hb : PE X b tb) (hc : PE X c tc)
    (hm : lastMarks [op, op'] [b, c] = false := by with_unfolding_all rfl) : PT X (.Compare a [op, op'] [b, c] pos) (tTest (tChain r r' ta tb tc)) := by
  intro pins s σ H Q I h
  refine isTrue_chain (thn (ha pins s σ H _ I h) fun v s1 ⟨x, H1, I1, r1, q1⟩ => test_link (thn (hb pins s1 σ H1 _ I1 q1) fun u s2 ⟨y, H2, I2, r2, q2⟩ =>
    thn (ho pins s2 σ H2 x y v u _ I2 r1 r2 q2) fun d s3 ⟨z, H3, I3, r3, k, e, q3⟩ => ?_)) hm
  subst e
  cases r3
  refine wpAny_truthy_bool ?_
  cases k with
  | false =>
    obtain ⟨k', e', q'⟩ := q3
    cases e'
    exact ite_ff ⟨H3, I3, q'⟩
  | true =>
    refine ite_tt (test_last (thn (hc pins s3 σ H3 _ I3 q3) fun w' s4 ⟨z', H4, I4, r4, q4⟩ => thn (ho' pins s4 σ H4 y z' u w' _ I4 r2 r4 q4) fun d' s5 ⟨z2, H5, I5, r5, k2, e2, q5⟩ => ?_))
    subst e2
    cases r5
    exact wpAny_truthy_bool ⟨H5, I5, q5⟩
theorem line63 : (sizeLine : Nat) < 2 ^ 63 := by rw [sizeLine_eq]; decide
theorem vals1 {x : V} {us : List Value} (r : Vals [x] us) : ∃ u, us = [u] ∧ RelV x u := by
  cases r with
  | cons r1 r2 => cases r2; exact ⟨_, rfl, r1⟩
end
end L2
namespace L2
open PySem PySem.Spec PyProof.Rows
structure ObjM (h : Heap) (x dx C : Addr) (mA : Str → Option Value) : Prop where
  obj : h.get? x = some (PySem.W.instObj C dx)
  ns : h.Ns1 dx mA
  ne : dx ≠ x
theorem lookIn_ns {h : Heap} {dx : Addr} {mA : Str → Option Value} (n : h.Ns1 dx mA) : ∃ od, h.get? dx = some od ∧ ∀ name, PySem.W.lookIn name od = some (mA name) := by
  obtain ⟨o, es, ep, ho, hd, hk, _, hm⟩ := n
  refine ⟨o, ho, fun name => ?_⟩
  have e := hm name
  unfold nsFind findBy at e
  rw [← Array.find?_toList] at e
  unfold PySem.W.lookIn
  rw [hd]
  dsimp only
  split
  · rename_i y q
    rw [q] at e
    exact congrArg some e
  · rename_i q
    rw [q] at e
    have a : es.toList.any (·.refKey) = false := by
      rw [List.any_eq_false]
      intro y hy
      obtain ⟨z, t, hkey⟩ := hk y (Array.mem_toList_iff.mp hy)
      simp [DictEntry.refKey, hkey]
    have a' : ¬ es.toList.any (·.refKey) = true := by rw [a]; exact Bool.false_ne_true
    rw [if_neg a']
    exact congrArg some e
theorem ObjM.look {h : Heap} {x dx C : Addr} {mA : Str → Option Value} (I : ObjM h x dx C mA) : ∃ od, PySem.W.InstAt h x (PySem.W.instObj C dx) C (some od) ∧ ∀ name, PySem.W.lookIn name od = some (mA name) :=
  let ⟨od, ho, hl⟩ := lookIn_ns I.ns
  ⟨od, ⟨I.obj, rfl, rfl, ho⟩, hl⟩
section
variable {prog : Program} {w : World} {A : Around} {E : Value → Shared → Prop} {s : Shared} {K : PySem.W.Frag} {x dx C f : Addr} {mA : Str → Option Value} {name : Str} {v : Value}
end
section
variable {P : Program} {w : World} {H H' : Hp} {h h' : Heap} {a C dx : Addr} {fs fs' : List (Str × V)}
theorem ins_get (hok : HOk P w H h) (e : H a = some (.ins C dx fs)) : ∃ mA, ObjM h a dx C mA ∧ (∀ f, RelO (fs.lookup f) (mA f)) ∧ PySem.Within mA (fs.map (·.1)) ∧ fs.length ≤ 1000 ∧ H dx = some (.own a) := by
  obtain ⟨d, z, ne, ob, mA, n, r, q⟩ := (show ObjOk P w H h a (.ins C dx fs) from hok a _ e)
  exact ⟨mA, ⟨ob, n, ne⟩, r, q, z, d⟩
end
structure Cls (K : PySem.W.Frag) (C : Addr) : Prop where
  pg : PySem.W.plainGet K C Str.empty = true
  hd : PySem.W.hasDictIn K C = true
  po : PySem.W.plainOver K C = true
  sa : PySem.W.findIn K (.ref C) "__setattr__" = some (some (.builtin "object.__setattr__"))
theorem Cls.get {K : PySem.W.Frag} {C : Addr} (c : Cls K C) (f : Str) : PySem.W.plainGet K C f = true := c.pg
structure Con (K : PySem.W.Frag) (C : Addr) (f : Str) (v : V) (u : Value) : Prop where
  at_ : PySem.W.findIn K (.ref C) f = some (some u)
  rel : RelV v u
  get : PySem.W.specialIn K u "__get__" = some none
  cp : PySem.W.copiedNames.contains f = false
structure Meth (K : PySem.W.Frag) (C : Addr) (m : Str) (f : Addr) : Prop where
  at_ : PySem.W.findIn K (.ref C) m = some (some (.ref f))
  fn : PySem.W.isFn K (.ref f) = true
  kp : PySem.W.keepIn K (.ref f) = true
section
variable {X : Cx} {pins : List (Addr × Obj)} {σ : St} {H : Hp} {s : Shared} {a C dx : Addr} {fs : List (Str × V)} {f : Str} {v : V} {A : Around} {E : Value → Shared → Prop}
end
section
variable {X : Cx} {o e value : Expr} {f : Str} {pos pos' tpos : Pos} {ta tv : TE}
end
section
variable {X : Cx} {pins : List (Addr × Obj)} {σ : St} {H : Hp} {s : Shared} {A : Around} {E : Value → Shared → Prop} {Q : Value → Shared → Prop} {c : Value} {b : Bool}
inductive TyOf (K : PySem.W.Frag) (H : Hp) : V → Value → Prop where
  | non : TyOf K H .non (.type "NoneType")
  | bl (x : Bool) : TyOf K H (.bl x) (.type "bool")
  | int (i : Int) : TyOf K H (.int i) (.type "int")
  | str (x : Str) : TyOf K H (.str x) (.type "str")
  | flt (x : UInt64) : TyOf K H (.flt x) (.type "float")
  | lst {a : Addr} {xs : List V} (e : H a = some (.lst xs)) : TyOf K H (.ref a) (.type "list")
  | frz {a : Addr} {o : Obj} {xs : List V} (e : H a = some (.frz o (.lst xs))) : TyOf K H (.ref a) (.type "list")
  | tup {a : Addr} {xs : List V} (e : H a = some (.tup xs)) : TyOf K H (.ref a) (.type "tuple")
  | dK {a : Addr} {kvs : List (Key × V)} (e : H a = some (.dK kvs)) : TyOf K H (.ref a) (.type "dict")
  | dT {a : Addr} {kvs : List (List Key × V)} (e : H a = some (.dT kvs)) : TyOf K H (.ref a) (.type "dict")
  | ins {a C dx : Addr} {fs : List (Str × V)} (e : H a = some (.ins C dx fs)) (cl : Cls K C) (ha : PySem.W.findIn K (.ref C) "__class__" = some (some (.builtin "object.__class__")))
      (hn : PySem.W.specialIn K (.builtin "object.__class__") "__get__" = some (some (.builtin "getset_descriptor.__get__"))) (htk : PySem.W.takesIn K (.builtin "object.__class__") = some true)
      (hm : PySem.W.mroIn K C (.type "object") = some true) : TyOf K H (.ref a) (.ref C)
theorem isinst_ok {x : V} {u t : Value} (I : Inv X pins σ H s) (rx : RelV x u) (ty : TyOf X.K H x t) (e : PySem.W.kitOne X.K t c = some b) (h : ∀ tk, Q (.bool b) { s with toks := tk }) :
    wpAny (model X.prog X.w) A (call (.builtin "isinstance") [u, c]) Q E s := by
  cases ty with
  | non => cases (show u = Value.none from rx); exact PySem.W.kia_one PySem.W.kitx_none I.kIn True.intro e (fun z => nomatch z) h
  | bl y => cases (show u = Value.bool y from rx); exact PySem.W.kia_one PySem.W.kitx_bool I.kIn True.intro e (fun z => nomatch z) h
  | int i => obtain ⟨t, q⟩ := (show ∃ t, u = Value.int i t from rx); cases q; exact PySem.W.kia_one PySem.W.kitx_int I.kIn True.intro e (fun z => nomatch z) h
  | str y => obtain ⟨t, q⟩ := (show ∃ t, u = Value.str y t from rx); cases q; exact PySem.W.kia_one PySem.W.kitx_str I.kIn True.intro e (fun z => nomatch z) h
  | flt y => obtain ⟨t, q⟩ := (show ∃ t, u = Value.float y t from rx); cases q; exact PySem.W.kia_one PySem.W.kitx_float I.kIn True.intro e (fun z => nomatch z) h
  | @lst a xs ea =>
    cases (show u = Value.ref a from rx)
    obtain ⟨_, _, n, _, h1⟩ := (show ObjOk X.prog X.w H s.heap a (.lst xs) from I.hok a _ ea)
    exact PySem.W.kia_one PySem.W.kitx_list I.kIn ⟨_, h1, rfl⟩ e (fun z => nomatch z) h
  | @frz a ob xs ea =>
    cases (show u = Value.ref a from rx)
    obtain ⟨_, _, _, n, _, h1⟩ := (show ObjOk X.prog X.w H s.heap a (.frz ob (.lst xs)) from I.hok a _ ea)
    exact PySem.W.kia_one PySem.W.kitx_list I.kIn ⟨_, h1, rfl⟩ e (fun z => nomatch z) h
  | @tup a xs ea =>
    cases (show u = Value.ref a from rx)
    obtain ⟨_, _, _, p⟩ := (show ObjOk X.prog X.w H s.heap a (.tup xs) from I.hok a _ ea)
    obtain ⟨o, h1, h2, _⟩ := p
    exact PySem.W.kia_one PySem.W.kitx_tuple I.kIn ⟨o, h1, h2⟩ e (fun z => nomatch z) h
  | @dK a kvs ea =>
    cases (show u = Value.ref a from rx)
    obtain ⟨_, _, vs, _, p⟩ := (show ObjOk X.prog X.w H s.heap a (.dK kvs) from I.hok a _ ea)
    obtain ⟨o, es, ep, h1, h2, _⟩ := p
    exact PySem.W.kia_one PySem.W.kitx_dict I.kIn ⟨o, h1, h2.1⟩ e (fun z => nomatch z) h
  | @dT a kvs ea =>
    cases (show u = Value.ref a from rx)
    obtain ⟨_, _, xs, _, o, es, ep, h1, h2, _⟩ := (show ObjOk X.prog X.w H s.heap a (.dT kvs) from I.hok a _ ea)
    exact PySem.W.kia_one PySem.W.kitx_dict I.kIn ⟨o, h1, h2.1⟩ e (fun z => nomatch z) h
  | @ins a C dx fs ea cl ha hn htk hm =>
    cases (show u = Value.ref a from rx)
    obtain ⟨mA, O, _⟩ := ins_get I.hok ea
    obtain ⟨od, J, _⟩ := O.look
    exact PySem.W.kia_one (PySem.W.kitx_own (cl.get _) cl.hd ha hn htk hm) I.kIn J e (fun z => nomatch z) h
end
end L2
namespace L2
open PySem PySem.Spec PyProof.Rows
structure Room (k : Nat) (A : Around) : Prop where
  dp : A.depth + 3 * k + 5 < recursionLimit
  un : A.units + 16 * k + 200 < cLine
  hd : 130 ≤ k → A.handled = none
theorem Room.mono {j k : Nat} {A : Around} (r : Room k A) (h : j ≤ k) : Room j A := ⟨by have := r.dp; omega, by have := r.un; omega, fun z => r.hd (by omega)⟩
theorem Room.deeper {k : Nat} {A : Around} (r : Room (k + 1) A) (env : Env) : Room k (A.deeper env) :=
  ⟨by have := r.dp; show A.depth + 1 + 3 * k + 5 < _; omega, by have := r.un; show A.units + 3 + 16 * k + 200 < _; omega, fun z => r.hd (by omega)⟩
theorem Room.depth {k : Nat} {A : Around} (r : Room k A) : A.depth < recursionLimit := by have := r.dp; omega
theorem Room.units {k : Nat} {A : Around} (r : Room k A) : A.units + 64 < cLine := by have := r.un; omega
noncomputable def tNil : TA := fun _ H Q => Q [] H
noncomputable def tCons (ta : TE) (tr : TA) : TA := fun σ H Q => ta σ H fun x H1 => tr σ H1 fun xs H2 => Q (x :: xs) H2
section
variable {X : Cx} {e : Expr} {es : List Expr} {te : TE} {t : TA} {pos : Pos}
theorem pa_nil : PA X [] tNil := fun _ _ _ _ H Q I h => Calls.spliced_nil ⟨[], H, I, .nil, h⟩
theorem pa_cons (ha : PE X e te) (hr : PA X es t) (hs : starEach (e :: es) X.env = (false, eval e X.env) :: starEach es X.env := by rfl) : PA X (e :: es) (tCons te t) := by
  intro pos pins s σ H Q I h
  rw [hs]
  show wpAny _ _ (spliced ((false, eval e X.env) :: backTo pos (starEach es X.env))) _ _ s
  refine Calls.spliced_cons (thn (ha pins s σ H _ I h) fun u s1 ⟨x, H1, I1, r1, q1⟩ => ?_)
  exact thn (hr pos pins s1 σ H1 _ I1 q1) fun us s2 ⟨xs, H2, I2, r2, q2⟩ => ⟨x :: xs, H2, I2, .cons r1 r2, q2⟩
noncomputable def tTup (t : TA) : TE := fun σ H Q => t σ H fun xs H1 => xs.length ≤ sizeLine ∧ ∀ p, H1 p = none → Q (.ref p) (upd H1 p (.tup xs))
noncomputable def tLst (t : TA) : TE := fun σ H Q => t σ H fun xs H1 => xs.length ≤ sizeLine ∧ ∀ p, H1 p = none → Q (.ref p) (upd H1 p (.lst xs))
theorem pe_tup {x1} (h : PA X es t) : PE X (.Tuple es x1 pos) (tTup t) := by
  intro pins s σ H Q I hq
  refine wpAny_Tuple_spliced (thn (h pos pins s σ H _ I hq) fun us s1 ⟨xs, H1, I1, r, z, q⟩ => ⟨by rw [← r.length]; exact z, ?_⟩)
  have hf : H1 s1.heap.objs.size = none := I1.hok.fresh (Nat.le_refl _)
  refine ⟨.ref s1.heap.objs.size, upd H1 s1.heap.objs.size (.tup xs), I1.laid (t' := s1.toks) (fun b u e => Heap.get?_push_of_some _ e) (Nat.le_refl _) ?_, rfl, q _ hf⟩
  exact ⟨z, us, r, ⟨_, Heap.get?_push_size _ rfl, rfl, _, rfl⟩⟩
theorem pe_lst (h : PA X es t) : PE X (.List es pos) (tLst t) := by
  intro pins s σ H Q I hq
  refine wpAny_List_spliced (thn (h pos pins s σ H _ I hq) fun us s1 ⟨xs, H1, I1, r, z, q⟩ => ⟨by rw [← r.length]; exact z, ?_⟩)
  have hf : H1 s1.heap.objs.size = none := I1.hok.fresh (Nat.le_refl _)
  refine ⟨.ref s1.heap.objs.size, upd H1 s1.heap.objs.size (.lst xs), I1.laid (t' := s1.toks) (fun b u e => Heap.get?_push_of_some _ e) (Nat.le_refl _) ?_, rfl, q _ hf⟩
  exact ⟨z, us, 0, r, Heap.get?_push_size _ rfl⟩
end
noncomputable abbrev Sp := List V → Hp → VK → XK → Prop
noncomputable abbrev CXT := Option Value → List Env → Hp → Shared → XK → Value → Shared → Prop
structure Env0 (P : Program) (w : World) (K : PySem.W.Frag) (mg : Str → Option Value) (base : Heap) (A : Around) (outer : List Env) (s : Shared) (H : Hp) : Prop where
  frames : A.frames = some outer
  mod : Mod K mg base
  bs : ∀ b o, base.get? b = some o → s.heap.get? b = some o ∧ H b = none
  bsz : base.objs.size ≤ s.heap.objs.size
  funs : s.heap.FunFrames base outer
  frf : ∀ b ∈ frs outer, H b = none
  hok : HOk P w H s.heap
  bare : AllBare s.gens
  hdl : HB base A
noncomputable def CE (outer : List Env) (P : Program) (w : World) (H : Hp) (s : Shared) (Q : VK) (u : Value) (s' : Shared) : Prop :=
  ∃ v H', s'.os = s.os ∧ AllBare s'.gens ∧ Un (frs outer) [] H H' s.heap s'.heap ∧ HOk P w H' s'.heap ∧ RelV v u ∧ Q v H'
noncomputable def CR (CX : CXT) (hh : Option Value) (outer : List Env) (P : Program) (w : World) (H : Hp) (s : Shared) (Q : VK) (E : XK) (r : Result) (s' : Shared) : Prop :=
  match r with
  | .ok (.ret u) => CE outer P w H s Q u s'
  | .ok _ => False
  | .error e => CX hh outer H s E e s'
structure FnOk (P : Program) (w : World) (K : PySem.W.Frag) (mg : Str → Option Value) (base : Heap) (CX : CXT) (k : Nat) (f : Addr) (fd : FuncData) (ps : List Str) (sp : Sp) : Prop where
  len : ∀ vs H Q E, sp vs H Q E → vs.length = ps.length
  run : ∀ (A : Around) (outer : List Env) (s : Shared) (H : Hp) (args : Args) (us : List Value) (vs : List V) (Q : VK) (E : XK), Room k A → Env0 P w K mg base A outer s H → BindsTo s fd args (ps.zip us) → Vals vs us → sp vs H Q E →
    codeAny (model P w) A (.call (.ref f) args) (CR CX A.handled outer P w H s Q E) s
section
variable {X : Cx} {pins : List (Addr × Obj)} {σ : St} {H : Hp} {s s' : Shared}
theorem Inv.after {Q : VK} {u : Value} (I : Inv X pins σ H s) (h : CE X.stack X.prog X.w H s Q u s') : EP X pins σ Q u s' := by
  obtain ⟨v, H', os, bare, un, hok, r, q⟩ := h
  obtain ⟨hh, g, d, t, os'⟩ := s'
  obtain rfl : os' = s.os := os
  exact ⟨v, H', I.call (h' := hh) (g' := g) (d' := d) (t' := t) (ch := []) un hok bare (fun b z => absurd z (by simp)), r, q⟩
end
noncomputable def tCall (sp : Sp) (dvs : List V) (E : XK) (t : TA) : TE := fun σ H Q => t σ H fun vs H1 => sp (vs ++ dvs) H1 Q E
noncomputable def Binds (K : PySem.W.Frag) (fd : FuncData) (ps : List Str) (ds : List Value) : Prop :=
  ∀ (s : Shared) (us : List Value), K.In s.heap → (us ++ ds).length = ps.length → BindsTo s fd ⟨us, []⟩ (ps.zip (us ++ ds))
theorem Binds.all {K : PySem.W.Frag} {fd : FuncData} {ps : List Str} (h : ∀ us : List Value, us.length = ps.length → bindArgs fd ⟨us, []⟩ = pure (ps.zip us)) : Binds K fd ps [] := fun s us _ hl => by
  rw [List.append_nil] at hl ⊢
  exact .of_eq (h us hl)
noncomputable def Passes (CX : CXT) (X : Cx) (E : XK) : Prop := ∀ (pins : List (Addr × Obj)) (σ : St) (H : Hp) (s : Shared) (e : Value) (s' : Shared), Inv X pins σ H s → CX X.A.handled X.stack H s E e s' → X.xe e s'
section
variable {X : Cx} {CX : CXT} {k : Nat} {f C : Addr} {fd : FuncData} {ps : List Str} {sp : Sp} {dvs : List V} {ds : List Value} {E : XK} {x m : Str} {p pos apos : Pos} {e o : Expr} {es : List Expr} {ta : TE} {t : TA}
end
noncomputable def PK (X : Cx) (kws : List Keyword) (t : TA) : Prop :=
  ∀ (pos : Pos) (pins : List (Addr × Obj)) (s : Shared) (σ : St) (H : Hp) (Q : List V → Hp → Prop), Inv X pins σ H s → t σ H Q → wpAny (model X.prog X.w) X.A (evalAll ((backToKw pos (keywordEach kws X.env)).map (·.2))) (AP X pins σ Q) X.xe s
section
variable {X : Cx} {CX : CXT} {k : Nat} {f C : Addr} {fd : FuncData} {ps ks : List Str} {sp : Sp} {E : XK} {x m : Str} {p pos apos kpos : Pos} {e o : Expr} {es : List Expr} {kws : List Keyword} {te ta : TE} {t tk : TA} {nm : Option Str}
theorem pk_nil : PK X [] tNil := fun _ _ _ _ H Q I h => wpAny_evalAll_nil ⟨[], H, I, .nil, h⟩
theorem pk_cons (ha : PE X e te) (hr : PK X kws t) : PK X (⟨nm, e, kpos⟩ :: kws) (tCons te t) := by
  intro pos pins s σ H Q I h
  show wpAny _ _ (evalAll ((do let v ← eval e X.env; standAt pos; pure v) :: (backToKw pos (keywordEach kws X.env)).map (·.2))) _ _ s
  refine wpAny_evalAll_cons (wpAny_bind (thn (ha pins s σ H _ I h) fun u s1 ⟨x, H1, I1, r1, q1⟩ => wpAny_bind (wpAny_standAt (wpAny_pure ?_))))
  exact thn (hr pos pins s1 σ H1 _ I1 q1) fun us s2 ⟨xs, H2, I2, r2, q2⟩ => ⟨x :: xs, H2, I2, .cons r1 r2, q2⟩
end
structure FnScope (N P : List Str) (sc : Scope) : Prop where
  kind : sc.kind = .function
  co : sc.isCoroutine = false
  gen : sc.isGenerator = false
  nd : N.Nodup
  pre : N.take P.length = P
  par : ∀ x ∈ P, sc.names.lookup x = some .local ∨ sc.names.lookup x = some .cell
  nofree : ∀ y ∈ sc.names, y.2 ≠ .free
theorem bindL_out {kindOf : Str → Option NameKind} {x : Str} : ∀ {binds : List (Str × Value)} {m : Str → Option Value}, (∀ v, (x, v) ∉ binds) → bindL kindOf binds m x = m x
  | [], _, _ => rfl
  | (n, v) :: r, m, h => by
    unfold bindL
    rw [bindL_out fun w hw => h w (List.mem_cons_of_mem _ hw)]
    split
    · have : x ≠ n := by rintro rfl; exact h v List.mem_cons_self
      simp [this]
    · rfl
theorem bindC_out {kindOf : Str → Option NameKind} {x : Str} : ∀ {binds : List (Str × Value)} {m : Str → Option Value}, (∀ v, (x, v) ∉ binds) → bindC kindOf binds m x = m x
  | [], _, _ => rfl
  | (n, v) :: r, m, h => by
    unfold bindC
    rw [bindC_out fun w hw => h w (List.mem_cons_of_mem _ hw)]
    split
    · rfl
    · have : x ≠ n := by rintro rfl; exact h v List.mem_cons_self
      simp [this]
theorem bindL_get {kindOf : Str → Option NameKind} {x : Str} {v : Value} : ∀ {P : List Str} {vs : List Value} {i : Nat} {m : Str → Option Value}, P.Nodup → P[i]? = some x → vs[i]? = some v → kindOf x = some .local →
    bindL kindOf (P.zip vs) m x = some v
  | [], _, _, _, _, h, _, _ => by simp at h
  | _ :: _, [], _, _, _, _, h, _ => by simp at h
  | p :: P, w :: vs, 0, m, nd, h1, h2, hk => by
    simp at h1 h2; subst h1; subst h2
    show bindL kindOf ((p, w) :: P.zip vs) m p = _
    unfold bindL
    rw [bindL_out fun v hv => (List.nodup_cons.mp nd).1 (List.of_mem_zip hv).1, if_pos hk]
    simp
  | p :: P, w :: vs, i + 1, m, nd, h1, h2, hk => by
    show bindL kindOf ((p, w) :: P.zip vs) m x = _
    unfold bindL
    exact bindL_get (i := i) (List.nodup_cons.mp nd).2 (by simpa using h1) (by simpa using h2) hk
theorem bindC_get {kindOf : Str → Option NameKind} {x : Str} {v : Value} : ∀ {P : List Str} {vs : List Value} {i : Nat} {m : Str → Option Value}, P.Nodup → P[i]? = some x → vs[i]? = some v → kindOf x ≠ some .local →
    bindC kindOf (P.zip vs) m x = some v
  | [], _, _, _, _, h, _, _ => by simp at h
  | _ :: _, [], _, _, _, _, h, _ => by simp at h
  | p :: P, w :: vs, 0, m, nd, h1, h2, hk => by
    simp at h1 h2; subst h1; subst h2
    show bindC kindOf ((p, w) :: P.zip vs) m p = _
    unfold bindC
    rw [bindC_out fun v hv => (List.nodup_cons.mp nd).1 (List.of_mem_zip hv).1, if_neg hk]
    simp
  | p :: P, w :: vs, i + 1, m, nd, h1, h2, hk => by
    show bindC kindOf ((p, w) :: P.zip vs) m x = _
    unfold bindC
    exact bindC_get (i := i) (List.nodup_cons.mp nd).2 (by simpa using h1) (by simpa using h2) hk
noncomputable def start (N : List Str) (vs : List V) : St := vs.map some ++ List.replicate (N.length - vs.length) none
noncomputable def cxOf (CX : CXT) (P : Program) (w : World) (K : PySem.W.Frag) (mg : Str → Option Value) (base : Heap) (N : List Str) (qual : Str) (scope : Scope) (f : Addr) (cd : Value) (A : Around) (outer : List Env) (s : Shared) (H : Hp) (E : XK) : Cx where
  prog := P
  w := w
  K := K
  mg := mg
  base := base
  A := A.deeper (envOfC qual scope s.heap.objs.size f cd)
  N := N
  s₀ := s
  H₀ := H
  env := envOfC qual scope s.heap.objs.size f cd
  outer := outer
  stack := envOfC qual scope s.heap.objs.size f cd :: outer
  ex := []
  calm := true
  fn := fun _ => true
  pn := []
  xe := fun e s' => wpAny (model P w) (A.deeper (envOfC qual scope s.heap.objs.size f cd)) (leaving (envOfC qual scope s.heap.objs.size f cd) e) (fun _ s'' => CX A.handled outer H s E e s'') (fun e' s'' => CX A.handled outer H s E e' s'') s'
theorem cell_has {sc : Scope} {n : Nat} {x : Str} (h : sc.names.lookup x = some .cell) : ∃ c, (cellsFrom n sc.names []).lookup x = some c := by
  have q := PySem.W.cellsFrom_some sc.names n [] (.inl h)
  exact Option.isSome_iff_exists.mp q
theorem inv_start {CX : CXT} {P : Program} {w : World} {K : PySem.W.Frag} {mg : Str → Option Value} {base : Heap} {N ps : List Str} {qual : Str} {scope : Scope} {f : Addr} {cd : Value} {A : Around} {outer : List Env} {s s1 : Shared} {H : Hp} {E : XK} {us : List Value} {vs : List V}
    (S : FnScope N ps scope) (e0 : Env0 P w K mg base A outer s H) (hl : vs.length = ps.length) (r : Vals vs us)
    (x : InCallC s s.heap.objs.size (bindL (envOfC qual scope s.heap.objs.size f cd).kindOf (ps.zip us) fun _ => none) (cellsFrom (s.heap.objs.size + 1) scope.names []) (bindC (envOfC qual scope s.heap.objs.size f cd).kindOf (ps.zip us) fun _ => none) s1) :
    Inv (cxOf CX P w K mg base N qual scope f cd A outer s H E) [] (start N vs) H s1 := by
  have hpl : ps.length ≤ N.length := by have := congrArg List.length S.pre; rw [List.length_take] at this; omega
  obtain ⟨h1, tk, rfl, hk⟩ := x.done
  have noA : ∀ b : Addr, b ∉ (cxOf CX P w K mg base N qual scope f cd A outer s H E).ex := fun b z => absurd (show b ∈ ([] : List Addr) from z) (by simp)
  refine ⟨⟨e0.mod, S.kind, rfl, rfl, Nat.le_refl _, fun y z c h1 h2 => ?_, fun y hy => ?_, fun y c _ h => ?_, fun _ => e0.hdl.toP, Around.frames_deeper e0.frames, .inr ⟨rfl, rfl⟩, fun b z => absurd z (noA b), e0.bs, e0.bsz, fun b _ _ => noA b, fun b z => absurd z (noA b), e0.funs, e0.frf⟩,
    rfl, e0.bare, Un.kept hk, ⟨_, x.toInCall.ns, fun i y v h1 h2 h3 => ?_⟩, fun y c h => ⟨_, x.cell y c h⟩, e0.hok.fresh (Nat.le_refl _), fun y c h => ?_, fun p hp => absurd (show p ∈ ([] : List (Addr × Obj)) from hp) (by simp), e0.hok.kept hk, ?_⟩
  · exact name_of_addr x.apart (PySem.mem_of_lookup h1) (PySem.mem_of_lookup h2)
  · have hy : scope.names.lookup y = some .cell ∨ scope.names.lookup y = some .free := hy
    rcases hy with hy | hy
    · exact cell_has hy
    · exact absurd rfl (S.nofree _ (PySem.mem_of_lookup hy))
  · exact Nat.le_of_lt (x.above y c (PySem.mem_of_lookup h))
  · have hi : i < vs.length := by
      unfold start at h2
      by_cases hi : i < vs.length
      · exact hi
      · rw [List.getElem?_append_right (by simpa using hi)] at h2
        rw [List.getElem?_replicate] at h2
        split at h2 <;> cases h2
    have ha : vs[i]? = some v := by
      unfold start at h2
      rw [List.getElem?_append_left (by simpa using hi), List.getElem?_map] at h2
      cases e : vs[i]? with
      | none => rw [e] at h2; cases h2
      | some a => rw [e] at h2; cases h2; rfl
    obtain ⟨u, hu, rv⟩ := r.get ha
    have hp : ps[i]? = some y := by
      rw [← S.pre, List.getElem?_take_of_lt (by omega)]; exact h1
    have ndP : ps.Nodup := by rw [← S.pre]; exact S.nd.sublist (List.take_sublist _ _)
    refine ⟨u, rv, ?_⟩
    rcases S.par y (List.mem_of_getElem? hp) with k | k
    · exact .inl ⟨k, bindL_get ndP hp hu k⟩
    · obtain ⟨c, e⟩ := cell_has (n := s.heap.objs.size + 1) k
      refine .inr ⟨.inl k, c, e, ?_⟩
      have q := x.cell y c e
      rw [bindC_get ndP hp hu (by show scope.names.lookup y ≠ _; rw [k]; decide)] at q
      exact q
  · exact e0.hok.fresh (Nat.le_of_lt (x.above y c (PySem.mem_of_lookup h)))
  · unfold start
    show _ = N.length
    rw [List.length_append, List.length_map, List.length_replicate]
    omega
theorem fn_of {CX : CXT} {P : Program} {w : World} {K : PySem.W.Frag} {mg : Str → Option Value} {base : Heap} {k : Nat} {f : Addr} {name qual : Str} {params : Arguments} {body : List Stmt} {scope : Scope} {dV kV doc pm cdv ct oc : Value} {an od : Option Addr}
    {osl : Array (Option Value)} {N ps : List Str} {sp : Sp} (lk : K.lookup f = some ⟨oc, od, .func (PySem.W.fnOf name qual params body scope dV kV doc pm an cdv ct), osl⟩) (hcd : PySem.W.codeIn K cdv qual = true) (S : FnScope N ps scope)
    (len : ∀ vs H Q E, sp vs H Q E → vs.length = ps.length)
    (hbody : ∀ (A : Around) (outer : List Env) (s : Shared) (H : Hp) (vs : List V) (Q : VK) (E : XK), Room k (A.deeper (envOfC qual scope s.heap.objs.size f cdv)) → sp vs H Q E →
      ∃ t, PSs (cxOf CX P w K mg base N qual scope f cdv A outer s H E) body t ∧ t { nx := fun _ H' => Q .non H', rt := Q } (start N vs) H) :
    FnOk P w K mg base CX (k + 1) f (PySem.W.fnOf name qual params body scope dV kV doc pm an cdv ct) ps sp := by
  refine ⟨len, fun A outer s H args us vs Q E hr e0 hb r hsp => ?_⟩
  have hl := len _ _ _ _ hsp
  have KX : K.In s.heap := e0.mod.kin.keeps fun b o e => (e0.bs b o e).1
  have lim : s.heap.NoLimit := e0.mod.nolimit.keeps fun b o e => (e0.bs b o e).1
  have hkind : ∀ y ∈ ps.zip us, scope.names.lookup y.1 = some .local ∨ (scope.names.lookup y.1 = some .cell ∧ ((cellsFrom (s.heap.objs.size + 1) scope.names []).lookup y.1).isSome = true) := fun ⟨n, v⟩ hy => by
    rcases S.par n (List.of_mem_zip hy).1 with q | q
    · exact .inl q
    · exact .inr ⟨q, PySem.W.cellsFrom_some _ _ _ (.inl q)⟩
  refine codeAny_call_function hr.depth (KX _ _ lk) rfl S.co S.gen rfl (PySem.W.codeRec_of KX hcd) (hb _ _ _ _ ?_)
  refine wpAny_newFunctionEnv_cells S.kind hkind fun env he s1 x => ?_
  subst he
  refine ⟨lim.keeps x.toInCall.keep, codeAny_func ?_⟩
  obtain ⟨t, ht, hq⟩ := hbody A outer s H vs Q E (hr.deeper _) hsp
  have I : Inv (cxOf CX P w K mg base N qual scope f cdv A outer s H E) [] (start N vs) H s1 := inv_start S e0 hl r x
  refine wpAny_mono (ht [] s1 (start N vs) H _ I hq) (fun fl s' hs => ?_) fun e s' hs => hs
  have fin : ∀ {σ' : St} {H' : Hp} {v : V} {u : Value}, Inv (cxOf CX P w K mg base N qual scope f cdv A outer s H E) [] σ' H' s' → RelV v u → Q v H' → CE outer P w H s Q u s' :=
    fun {σ' H' v u} J rv q => ⟨v, H', J.os, J.bare, J.base, J.hok, rv, q⟩
  cases fl with
  | ret u =>
    obtain ⟨v, σ', H', J, rv, q⟩ := hs
    exact fin J rv q
  | next =>
    obtain ⟨σ', H', J, q⟩ := hs
    exact fin (v := V.non) (u := Value.none) J rfl q
  | brk =>
    obtain ⟨_, _, _, q⟩ := hs
    exact False.elim q
  | cont =>
    obtain ⟨_, _, _, q⟩ := hs
    exact False.elim q
end L2
namespace L2
open PySem PySem.Spec PyProof.Rows
section
variable {X : Cx} {x : Str} {p pos : Pos} {e : Expr} {es : List Expr} {t : TA} {id T : String} {r : List V → Hp → VK → Prop}
noncomputable def tCB (r : List V → Hp → VK → Prop) (t : TA) : TE := fun σ H Q => t σ H fun vs H1 => r vs H1 Q
theorem pe_callB (hc : CallR X (.builtin id) r) (hg : Gl X x) (hm : X.mg x = none) (hv : bootBuiltins x = some (.builtin id)) (ha : PA X (e :: es) t) (hn : x ≠ "__name__" := by decide) (hdb : (x == ("__debug__" : Str)) = false := by decide)
    (he : starEach (e :: es) X.env = (false, eval e X.env) :: starEach es X.env := by rfl) (hpl : (backTo pos (starEach es X.env)).any (·.1) = false := by rfl) : PE X (.Call (.Name x p) (e :: es) [] pos) (tCB r t) := by
  intro pins s σ H Q I h
  refine wpAny_Call_Name_kw (ld_blt I hg hm hv ?_ hn hdb)
  exact PyProof.Rows.callWith_builtin1 (thn (ha pos pins s σ H _ I h) fun us s1 ⟨vs, H1, I1, r1, q1⟩ => hc pins s1 σ H1 vs us Q I1 r1 q1) he hpl
theorem pe_callTy (hc : CallR X (.type T) r) (hg : Gl X x) (hm : X.mg x = none) (hv : bootBuiltins x = some (.type T)) (ha : PA X (e :: es) t) (hn : x ≠ "__name__" := by decide) (hdb : (x == ("__debug__" : Str)) = false := by decide)
    (he : starEach (e :: es) X.env = (false, eval e X.env) :: starEach es X.env := by rfl) (hpl : (backTo pos (starEach es X.env)).any (·.1) = false := by rfl) : PE X (.Call (.Name x p) (e :: es) [] pos) (tCB r t) := by
  intro pins s σ H Q I h
  refine wpAny_Call_Name_kw (ld_blt I hg hm hv ?_ hn hdb)
  exact PyProof.Rows.callWith_type1 (thn (ha pos pins s σ H _ I h) fun us s1 ⟨vs, H1, I1, r1, q1⟩ => hc pins s1 σ H1 vs us Q I1 r1 q1) he hpl
end
end L2
namespace HT
open PySem PyProof.Rows
section
open PySem.SeqAt
open PySem.AutoSeq1 (wpAny_loadPart')
open PySem.MeetsSeq PySem.MeetsSeq2 PySem.MeetsSeq3
end
section
variable {prog : Program} {w : World} {A : Around} {E : Value → Shared → Prop} {s : Shared}
theorem cat_tup {t b : Addr} {vs ws : List Value} {Q : Value → Shared → Prop} (ht : IsTup s.heap t vs.toArray) (hb : IsTup s.heap b ws.toArray) (hv : vs ≠ [])
    (h1 : ws = [] → Q (.ref t) s) (h2 : ws ≠ [] → Q (.ref s.heap.objs.size) { s with heap := s.heap.push { cls := .type "tuple", data := .seq (vs ++ ws).toArray } })
    (hsz : vs.length + ws.length ≤ sizeLine) : wpAny (model prog w) A (binaryOp .Add (.ref t) (.ref b)) Q E s := by
  obtain ⟨⟨cls, dd, data, sl⟩, ho, hc, n, hd⟩ := id ht
  obtain ⟨⟨cls2, dd2, data2, sl2⟩, ho2, hc2, n2, hd2⟩ := id hb
  simp only at hc hd hc2 hd2
  subst hc hd hc2 hd2
  have e : vs.toArray ++ ws.toArray = (vs ++ ws).toArray := by simp
  by_cases hw : ws = []
  · exact concat_meets ⟨_, ho, rfl⟩ ⟨_, ho2, rfl⟩ noFill_tuple_add seq_tuple_add PySem.F.slot_tuple_add PySem.F.entry_tuple_add (PySem.F.args_tuple_add_2 _ _)
      (tuple_addW1 t b vs.toArray ws.toArray n n2 dd dd2 sl sl2 (by simpa using hv) (by simp [hw])) ⟨ho, ho2, h1 hw⟩
  · refine concat_meets ⟨_, ho, rfl⟩ ⟨_, ho2, rfl⟩ noFill_tuple_add seq_tuple_add PySem.F.slot_tuple_add PySem.F.entry_tuple_add (PySem.F.args_tuple_add_2 _ _)
      (tuple_addW2 t b vs.toArray ws.toArray n n2 dd dd2 sl sl2 (by simpa using hv) (by simpa using hw) (by rw [List.size_toArray, List.size_toArray]; exact hsz)) ⟨ho, ho2, ?_⟩
    rw [e]
    exact h2 hw
noncomputable def sIx (n d : Nat) : Option Int → Nat
  | none => d
  | some v => if v < 0 then (v + (n : Int)).toNat else min v.toNat n
theorem sIx_none (n d : Nat) : sIx n d none = d := rfl
theorem sIx_nat (n d k : Nat) : sIx n d (some (k : Int)) = min k n := by
  show (if (k : Int) < 0 then ((k : Int) + (n : Int)).toNat else min (k : Int).toNat n) = min k n
  rw [if_neg (by omega), Int.toNat_natCast]
theorem sIx_le (n d : Nat) (hd : d ≤ n) (o : Option Int) : sIx n d o ≤ n := by
  cases o with
  | none => exact hd
  | some v =>
    show (if v < 0 then (v + (n : Int)).toNat else min v.toNat n) ≤ n
    by_cases hv : v < 0
    · rw [if_pos hv]; omega
    · rw [if_neg hv]; exact Nat.min_le_right _ _
theorem clip_eq (v : Int) (n d : Nat) : (if v < 0 then max (v + (n : Int)) 0 else min v (n : Int)) = ((sIx n d (some v) : Nat) : Int) := by
  show (if v < 0 then max (v + (n : Int)) 0 else min v (n : Int)) = (((if v < 0 then (v + (n : Int)).toNat else min v.toNat n) : Nat) : Int)
  by_cases hv : v < 0
  · simp only [if_pos hv]; omega
  · simp only [if_neg hv]; omega
theorem adjust_gen (lo hi : Option Int) (n : Nat) : Builtin.Slice.sliceAdjust lo hi 1 (n : Int) = (((sIx n 0 lo : Nat) : Int), ((sIx n n hi : Nat) : Int)) := by
  have h1 : ¬ ((1 : Int) < 0) := by omega
  unfold Builtin.Slice.sliceAdjust
  simp only [h1, if_false]
  refine Prod.ext ?_ ?_
  · cases lo with
    | none => rfl
    | some v => exact clip_eq v n 0
  · cases hi with
    | none => rfl
    | some v => exact clip_eq v n n
theorem places_gen (i j : Nat) : Builtin.Slice.slicePlaces (i : Int) (j : Int) 1 = j - i := by
  unfold Builtin.Slice.slicePlaces
  have h1 : (1 : Int) > 0 := by omega
  simp only [h1, if_true, Int.ediv_one]
  split <;> omega
theorem slicePart_ {v : Value} {o : Option Int} {Q : Option Int → Shared → Prop} (p : IsPart v o) (h : Q o s) : wpAny (model prog w) A (Builtin.Slice.slicePartIndex v) Q E s := by
  cases p with
  | none => exact slicePart_none h
  | int i t => exact slicePart_int h
theorem sliceApplied_gen {sl : Addr} {vl vu : Value} {lo hi : Option Int} {n : Nat} {Q : Int × Int × Nat → Shared → Prop} (hs : s.heap.IsSliceOf sl vl vu .none) (pl : IsPart vl lo) (pu : IsPart vu hi)
    (h : Q (((sIx n 0 lo : Nat) : Int), 1, sIx n n hi - sIx n 0 lo) s) : wpAny (model prog w) A (Builtin.Slice.sliceApplied (.ref sl) (pure (n : Int))) Q E s := by
  obtain ⟨os, hos, hcs, hds⟩ := id hs
  unfold Builtin.Slice.sliceApplied Builtin.Slice.sliceFields
  refine wpAny_bind (wpAny_bind (wpAny_field hos hds (x := vl) rfl (wpAny_bind (wpAny_field hos hds (x := vu) rfl (wpAny_bind (wpAny_field hos hds (x := .none) rfl (wpAny_pure ?_)))))))
  refine wpAny_bind (slicePart_none ?_)
  show wpAny _ _ (if ((1 : Int) == 0) = true then _ else _) _ _ s
  rw [if_neg (by decide)]
  refine wpAny_bind (slicePart_ pl (wpAny_bind (slicePart_ pu (wpAny_bind (wpAny_pure ?_)))))
  show wpAny _ _ (match Builtin.Slice.sliceAdjust lo hi 1 (n : Int) with | (lo, hi) => pure (lo, (1 : Int), Builtin.Slice.slicePlaces lo hi 1)) _ _ s
  rw [adjust_gen lo hi n]
  show wpAny _ _ (pure (((sIx n 0 lo : Nat) : Int), (1 : Int), Builtin.Slice.slicePlaces ((sIx n 0 lo : Nat) : Int) ((sIx n n hi : Nat) : Int) 1)) _ _ s
  rw [places_gen]
  exact wpAny_pure h
theorem pick_gen (xs : Array Value) (i k : Nat) : ((List.range k).filterMap fun (m : Nat) => xs[((i : Int) + (m : Int) * 1).toNat]?).toArray = ((xs.toList.drop i).take k).toArray := by
  have e : (fun (m : Nat) => xs[((i : Int) + (m : Int) * 1).toNat]?) = fun m => xs[i + m]? := by
    funext m
    have : ((i : Int) + (m : Int) * 1).toNat = i + m := by omega
    rw [this]
  rw [e]
  have := pick_run xs i k
  rw [List.filterMap_map] at this
  have e2 : ((fun x => xs[x]?) ∘ fun x => i + x) = fun m => xs[i + m]? := rfl
  rw [e2] at this
  rw [this]
theorem getItem_tuple_cut {t sl : Addr} {items : Array Value} {vl vu : Value} {lo hi : Option Int} {Q : Value → Shared → Prop} (ht : IsTup s.heap t items) (hs : s.heap.IsSliceOf sl vl vu .none) (pl : IsPart vl lo) (pu : IsPart vu hi)
    (hw : ¬ (sIx items.size 0 lo = 0 ∧ sIx items.size items.size hi = items.size))
    (h : Q (.ref s.heap.objs.size) { s with heap := s.heap.push { cls := .type "tuple", data := .seq ((items.toList.drop (sIx items.size 0 lo)).take (sIx items.size items.size hi - sIx items.size 0 lo)).toArray } })
    (hsz : items.size ≤ sizeLine) : wpAny (model prog w) A (getItem (.ref t) (.ref sl)) Q E s := by
  have htake : sizeOk (.seq ((items.toList.drop (sIx items.size 0 lo)).take (sIx items.size items.size hi - sIx items.size 0 lo)).toArray) := by
    show ((items.toList.drop (sIx items.size 0 lo)).take (sIx items.size items.size hi - sIx items.size 0 lo)).toArray.size ≤ sizeLine
    rw [List.size_toArray, List.length_take, List.length_drop, Array.length_toList]
    omega
  have hj : sIx items.size items.size hi ≤ items.size := sIx_le _ _ (Nat.le_refl _) hi
  obtain ⟨os, hos, hcs, hds⟩ := id hs
  have hTs : s.TypeIs (.ref sl) "slice" := ⟨os, hos, hcs⟩
  unfold getItem
  try with_reducible refine wpAny_holding ?_
  first | refine wpAny_bind (wpAny_pure ?_) | skip
  refine wpAny_bind (wpAny_sequenceKey ht.typeIs (by decide) ?_)
  refine wpAny_bind (wpAny_callSpecial?_slot (name := Str.ofString "__getitem__") ht.typeIs PyProof.Rows.slot_tuple_getitem
    (wpAny_call_entry PyProof.Rows.slot_tuple_getitem ht.typeIs entry_tuple_getitem ?_ (args_tuple_getitem _ _)))
  show wpAny _ _ (Builtin.Tuple.tupleItemsOf (.ref t) >>= _) _ _ s
  refine wpAny_bind (tupleItemsOf_ ht ?_)
  refine wpAny_bind (wpAny_typeOf hTs ?_)
  rw [if_pos (by decide)]
  refine wpAny_bind (sliceApplied_gen hs pl pu ?_)
  have hno : ¬ ((((sIx items.size 0 lo : Nat) : Int) == 0 && (1 : Int) == 1 && (sIx items.size items.size hi - sIx items.size 0 lo) == items.size) = true) := by
    intro q
    rw [Bool.and_eq_true, Bool.and_eq_true] at q
    have q1 : ((sIx items.size 0 lo : Nat) : Int) = 0 := eq_of_beq q.1.1
    have q2 : sIx items.size items.size hi - sIx items.size 0 lo = items.size := eq_of_beq q.2
    exact hw ⟨by omega, by omega⟩
  show wpAny _ _ (if (((sIx items.size 0 lo : Nat) : Int) == 0 && (1 : Int) == 1 && (sIx items.size items.size hi - sIx items.size 0 lo) == items.size) = true then _ else _) _ _ s
  rw [if_neg hno, pick_gen]
  first
    | exact wpAny_bind (m := Builtin.Tuple.tupleExact _) (wpAny_newObj_type (wpAny_pure ⟨_, rfl, wpAny_pure h⟩) htake)
    | exact wpAny_bind (m := Builtin.Tuple.tupleExact _) (wpAny_newObj_type (wpAny_bind (wpAny_pure (wpAny_pure ⟨_, rfl, wpAny_pure h⟩))) htake)
    | exact wpAny_bind (wpAny_bind (m := Builtin.Tuple.tupleExact _) (wpAny_newObj_type (wpAny_pure (wpAny_pure ⟨_, rfl, wpAny_pure h⟩)) htake))
    | exact wpAny_bind (wpAny_bind (m := Builtin.Tuple.tupleExact _) (wpAny_newObj_type (wpAny_pure ⟨_, rfl, wpAny_pure h⟩) htake))
end
end HT
namespace L2
open PySem PySem.Spec PyProof.Rows
noncomputable abbrev TO := St → Hp → (Option Int → Hp → Prop) → Prop
noncomputable def PO (X : Cx) (e : Option Expr) (t : TO) : Prop :=
  ∀ (pins : List (Addr × Obj)) (s : Shared) (σ : St) (H : Hp) (Q : Option Int → Hp → Prop), Inv X pins σ H s → t σ H Q →
    wpAny (model X.prog X.w) X.A (evalPart e X.env) (fun u s' => ∃ o H', Inv X pins σ H' s' ∧ IsPart u o ∧ Q o H') X.xe s
noncomputable def tNoPart : TO := fun _ H Q => Q none H
noncomputable def tPart (t : TE) : TO := fun σ H Q => t σ H fun x H1 => ∃ i, x = .int i ∧ Q (some i) H1
section
variable {X : Cx} {e : Expr} {te : TE} {lo hi : Option Expr} {tl th : TO} {pos p2 : Pos}
theorem po_none : PO X none tNoPart := by
  intro pins s σ H Q I h
  rw [evalPart_none]
  exact wpAny_pure ⟨none, H, I, .none, h⟩
theorem po_some (h : PE X e te) : PO X (some e) (tPart te) := by
  intro pins s σ H Q I hw
  rw [evalPart_some]
  refine thn (h pins s σ H _ I hw) fun u s1 ⟨x, H1, I1, r1, q1⟩ => ?_
  obtain ⟨i, rfl, q⟩ := q1
  obtain ⟨t, rfl⟩ := r1
  exact ⟨some i, H1, I1, .int i t, q⟩
noncomputable def SlR (X : Cx) (r : V → Option Int → Option Int → Hp → VK → Prop) : Prop :=
  ∀ (pins : List (Addr × Obj)) (s : Shared) (σ : St) (H : Hp) (x : V) (v vl vu : Value) (lo hi : Option Int) (sl : Addr) (Q : VK), Inv X pins σ H s → RelV x v → s.heap.IsSliceOf sl vl vu .none → IsPart vl lo → IsPart vu hi → r x lo hi H Q →
    ∃ T id, typeLookup (.type T) "__getitem__" = pure (some (.builtin id)) ∧ s.TypeIs v T ∧ wpAny (model X.prog X.w) X.A (getItem v (.ref sl)) (EP X pins σ Q) X.xe s
noncomputable def tSl (r : V → Option Int → Option Int → Hp → VK → Prop) (te : TE) (tl th : TO) : TE := fun σ H Q => te σ H fun x H1 => tl σ H1 fun l H2 => th σ H2 fun u H3 => r x l u H3 Q
theorem pe_slice {r : V → Option Int → Option Int → Hp → VK → Prop} (hr : SlR X r) (he : PE X e te) (hl : PO X lo tl) (hu : PO X hi th) : PE X (.Subscript e (.Slice lo hi none p2) pos) (tSl r te tl th) := by
  intro pins s σ H Q I h
  refine Subscript_ (thn (he pins s σ H _ I h) fun v s1 ⟨x, H1, I1, r1, q1⟩ => ?_)
  refine wpAny_Slice (thn (hl pins s1 σ H1 _ I1 q1) fun vl s2 ⟨l, H2, I2, pl, q2⟩ => thn (hu pins s2 σ H2 _ I2 q2) fun vu s3 ⟨u, H3, I3, pu, q3⟩ => ?_)
  rw [evalPart_none]
  refine wpAny_pure ?_
  have I4 : Inv X pins σ H3 { s3 with heap := s3.heap.push { cls := .type "slice", data := .fields #[vl, vu, .none] } } := I3.kept (t' := s3.toks) fun b ob q => Heap.get?_push_of_some _ q
  obtain ⟨T, id, hT, ht, hg⟩ := hr pins { s3 with heap := s3.heap.push { cls := .type "slice", data := .fields #[vl, vu, .none] } } σ H3 x v vl vu l u s3.heap.objs.size Q I4 r1 (Heap.IsSliceOf.new ..) pl pu q3
  show wpAny (model X.prog X.w) X.A (subscriptTail e (.Slice lo hi none p2) v (.ref s3.heap.objs.size)) (EP X pins σ Q) X.xe { s3 with heap := s3.heap.push { cls := .type "slice", data := .fields #[vl, vu, .none] } }
  exact tail_any (ops := [.ref s3.heap.objs.size, v]) ht hT hg (by with_unfolding_all rfl)
noncomputable def cutV (xs : List V) (lo hi : Option Int) : List V := (xs.drop (HT.sIx xs.length 0 lo)).take (HT.sIx xs.length xs.length hi - HT.sIx xs.length 0 lo)
theorem cutV_length (xs : List V) (lo hi : Option Int) : (cutV xs lo hi).length ≤ xs.length := by
  unfold cutV
  rw [List.length_take, List.length_drop]
  omega
noncomputable def rSlT (K : PySem.W.Frag) : V → Option Int → Option Int → Hp → VK → Prop := fun x lo hi H Q => ∃ a xs, x = .ref a ∧ SqT K H a xs ∧
  ¬ (HT.sIx xs.length 0 lo = 0 ∧ HT.sIx xs.length xs.length hi = xs.length) ∧ ∀ p, H p = none → Q (.ref p) (upd H p (.tup (cutV xs lo hi)))
theorem sl_tup : SlR X (rSlT X.K) := by
  intro pins s σ H x v vl vu lo hi sl Q I rx hs pl pu h
  obtain ⟨a, xs, rfl, hx, hw, q⟩ := h
  cases rx
  obtain ⟨its, r, ht, hz⟩ := I.tuple hx
  have hlen : its.toArray.size = xs.length := by rw [List.size_toArray]; exact r.length.symm
  refine ⟨"tuple", _, PyProof.Rows.slot_tuple_getitem.lookup, ht.typeIs, ?_⟩
  refine HT.getItem_tuple_cut ht hs pl pu (by rw [hlen]; exact hw) ?_ (by rw [hlen]; exact hz)
  rw [hlen]
  refine ⟨.ref s.heap.objs.size, _, I.laid (t' := s.toks) (o := .tup (cutV xs lo hi)) (fun b ob q => Heap.get?_push_of_some _ q) (Nat.le_refl _) ?_, rfl, q _ (I.hok.fresh (Nat.le_refl _))⟩
  exact ⟨Nat.le_trans (cutV_length xs lo hi) hz, _, (r.drop (HT.sIx xs.length 0 lo)).take (HT.sIx xs.length xs.length hi - HT.sIx xs.length 0 lo), IsTup.new _ _⟩
noncomputable def rCatT (K : PySem.W.Frag) : R2 := fun x y H Q => ∃ a b xs ys, x = .ref a ∧ y = .ref b ∧ SqT K H a xs ∧ SqT K H b ys ∧ xs ≠ [] ∧ xs.length + ys.length ≤ sizeLine ∧
  (ys = [] → Q (.ref a) H) ∧ (ys ≠ [] → ∀ p, H p = none → Q (.ref p) (upd H p (.tup (xs ++ ys))))
theorem Vals.nil_iff {xs : List V} {us : List Value} (r : Vals xs us) : us = [] ↔ xs = [] := by
  cases r with
  | nil => simp
  | cons _ _ => simp
theorem op_catT : OpR X (binaryOp .Add) (rCatT X.K) := by
  intro pins s σ H x y v u Q I rx ry h
  obtain ⟨a, b, xs, ys, rfl, rfl, ha, hb, hx, hz, q1, q2⟩ := h
  cases rx
  cases ry
  obtain ⟨its, r1, p1, _⟩ := I.tuple ha
  obtain ⟨its2, r2, p2, _⟩ := I.tuple hb
  refine HT.cat_tup p1 p2 (fun z => hx (r1.nil_iff.mp z)) (fun z => ⟨.ref a, H, I, rfl, q1 (r2.nil_iff.mp z)⟩) (fun z => ?_) (by rw [← r1.length, ← r2.length]; exact hz)
  refine ⟨.ref s.heap.objs.size, _, I.laid (t' := s.toks) (o := .tup (xs ++ ys)) (fun b ob q => Heap.get?_push_of_some _ q) (Nat.le_refl _) ?_, rfl, q2 (fun w => z (r2.nil_iff.mpr w)) _ (I.hok.fresh (Nat.le_refl _))⟩
  exact ⟨by rw [List.length_append]; exact hz, _, r1.append r2, IsTup.new _ _⟩
end
end L2
namespace L2
open PySem PySem.Spec PyProof.Rows
noncomputable def ixN (n : Nat) (i : Int) : Option Nat := if 0 ≤ i then (if i < n then some i.toNat else none) else if -(n : Int) ≤ i then some (i + n).toNat else none
noncomputable def atI {α : Type} (xs : List α) (i : Int) : Option α := (ixN xs.length i).bind fun j => xs[j]?
theorem ixN_seq {n : Nat} {i : Int} {j : Nat} (h : ixN n i = some j) : seqIndex? i n = some j ∧ j < n ∧ -(n : Int) ≤ i ∧ i < n := by
  unfold ixN at h
  by_cases h0 : 0 ≤ i
  · rw [if_pos h0] at h
    by_cases h1 : i < n
    · rw [if_pos h1] at h
      have e : i.toNat = j := Option.some.inj h
      exact ⟨by rw [seqIndex_of h0 h1, e], by omega, by omega, h1⟩
    · rw [if_neg h1] at h; cases h
  · rw [if_neg h0] at h
    by_cases h1 : -(n : Int) ≤ i
    · rw [if_pos h1] at h
      have e : (i + n).toNat = j := Option.some.inj h
      exact ⟨by rw [seqIndex_neg (by omega) h1, e], by omega, h1, by omega⟩
    · rw [if_neg h1] at h; cases h
theorem atI_get {α : Type} {xs : List α} {i : Int} {v : α} (h : atI xs i = some v) : ∃ j, seqIndex? i xs.length = some j ∧ xs[j]? = some v ∧ j < xs.length ∧ -(xs.length : Int) ≤ i ∧ i < xs.length := by
  unfold atI at h
  cases e : ixN xs.length i with
  | none => rw [e] at h; cases h
  | some j =>
    rw [e] at h
    obtain ⟨h1, h2, h3, h4⟩ := ixN_seq e
    exact ⟨j, h1, h, h2, h3, h4⟩
theorem atI_nat {α : Type} {xs : List α} {j : Nat} {v : α} (h : xs[j]? = some v) : atI xs (j : Int) = some v := by
  have hj : j < xs.length := (List.getElem?_eq_some_iff.mp h).1
  have e : ixN xs.length (j : Int) = some j := by
    unfold ixN
    rw [if_pos (by omega), if_pos (by omega)]; simp
  unfold atI; rw [e]; exact h
noncomputable def PlainIx (b : Expr) : Prop := ∀ o i, subscripted b false o i = operate [o, i] (getItem o i)
noncomputable def IxR (X : Cx) (r : R2) : Prop :=
  ∀ (value slice : Expr) (pins : List (Addr × Obj)) (s : Shared) (σ : St) (H : Hp) (x y : V) (v u : Value) (Q : VK), Inv X pins σ H s → RelV x v → RelV y u → r x y H Q →
    subscripted slice false v u = operate [v, u] (getItem v u) → wpAny (model X.prog X.w) X.A (subscriptTail value slice v u) (EP X pins σ Q) X.xe s
noncomputable def MtR (X : Cx) (id : String) (r : V → List V → Hp → VK → Prop) : Prop :=
  ∀ (pins : List (Addr × Obj)) (s : Shared) (σ : St) (H : Hp) (x : V) (xs : List V) (v : Value) (us : List Value) (Q : VK), Inv X pins σ H s → RelV x v → Vals xs us → r x xs H Q →
    wpAny (model X.prog X.w) X.A (call (.builtin id) (v :: us)) (EP X pins σ Q) X.xe s
section
variable {X : Cx} {a b : Expr} {ta tb : TE} {pos : Pos}
theorem IxR.or {r r' : R2} (h : IxR X r) (h' : IxR X r') : IxR X (fun x y H Q => r x y H Q ∨ r' x y H Q) := by
  intro value slice pins s σ H x y v u Q I rx ry q hs
  rcases q with q | q
  · exact h value slice pins s σ H x y v u Q I rx ry q hs
  · exact h' value slice pins s σ H x y v u Q I rx ry q hs
theorem pe_ix {r : R2} (hr : IxR X r) (ha : PE X a ta) (hb : PE X b tb) (hs : PlainIx b) : PE X (.Subscript a b pos) (tOp r ta tb) := by
  intro pins s σ H Q I h
  exact Subscript_ (binT ha hb I h fun v u s2 x y H2 I2 rx ry q => hr a b pins s2 σ H2 x y v u Q I2 rx ry q (hs _ _))
noncomputable def rIxL (K : PySem.W.Frag) : R2 := fun x y H Q => ∃ p xs i v, x = .ref p ∧ y = .int i ∧ SqL K H p xs ∧ atI xs i = some v ∧ Q v H
noncomputable def rIxT (K : PySem.W.Frag) : R2 := fun x y H Q => ∃ p xs i v, x = .ref p ∧ y = .int i ∧ SqT K H p xs ∧ atI xs i = some v ∧ Q v H
noncomputable def rIxS : R2 := fun x y H Q => ∃ z i c, x = .str z ∧ y = .int i ∧ z.length ≤ sizeLine ∧ atI z.cps.toList i = some c ∧ Q (.str ⟨#[c]⟩) H
theorem ix_list : IxR X (rIxL X.K) := by
  intro value slice pins s σ H x y v u Q I rx ry h hs
  obtain ⟨p, xs, i, z, rfl, rfl, hq, he, q⟩ := h
  cases rx
  obtain ⟨t, rfl⟩ := ry
  obtain ⟨its, r, pl, hz⟩ := I.list hq
  obtain ⟨j, h1, h2, h3, h4, h5⟩ := atI_get he
  obtain ⟨w, ew, rw'⟩ := r.get h2
  have hl := r.length
  have hn := line63
  have fin : EP X pins σ Q w s := ⟨z, H, I, rw', q⟩
  by_cases h0 : 0 ≤ i
  · have hj : i.toNat = j := by
      rw [seqIndex_of h0 h5] at h1
      exact Option.some.inj h1
    exact item_listR pl.isList h0 (by omega) (by rw [hj]; simpa using ew) fin hs
  · have hj : (i + (its.toArray.size : Int)).toNat = j := by
      rw [seqIndex_neg (by omega) h4] at h1
      rw [List.size_toArray, ← hl]
      exact Option.some.inj h1
    exact subscriptTail_builtinR (x := w) pl.isList.typeIs slot_list_getitem.lookup
      (wpAny_getItem_list_neg (Q := fun r s' => r = w ∧ EP X pins σ Q r s') pl.isList (by omega) (by rw [List.size_toArray] <;> omega) (by omega) (by rw [hj]; simpa using ew) ⟨rfl, fin⟩) hs
theorem ix_tup : IxR X (rIxT X.K) := by
  intro value slice pins s σ H x y v u Q I rx ry h hs
  obtain ⟨p, xs, i, z, rfl, rfl, hq, he, q⟩ := h
  cases rx
  obtain ⟨t, rfl⟩ := ry
  obtain ⟨its, r, pl, hz⟩ := I.tuple hq
  obtain ⟨j, h1, h2, h3, h4, h5⟩ := atI_get he
  obtain ⟨w, ew, rw'⟩ := r.get h2
  have hl := r.length
  have hn := line63
  have fin : EP X pins σ Q w s := ⟨z, H, I, rw', q⟩
  exact subscriptTail_builtinR (x := w) pl.typeIs slot_tuple_getitem.lookup
    (getItem_tuple (j := j) (Q := fun r s' => r = w ∧ EP X pins σ Q r s') pl (by omega) (by omega) (by rw [List.size_toArray, ← hl]; exact h1) (by simpa using ew) ⟨rfl, fin⟩) hs
theorem ix_str : IxR X rIxS := by
  intro value slice pins s σ H x y v u Q I rx ry h hs
  obtain ⟨z, i, c, rfl, rfl, hz, he, q⟩ := h
  obtain ⟨t, rfl⟩ := rx
  obtain ⟨t', rfl⟩ := ry
  obtain ⟨j, h1, h2, h3, h4, h5⟩ := atI_get he
  have hl : z.cps.toList.length = z.length := by simp [Str.length]
  rw [hl] at h1 h4 h5
  have hn := line63
  exact tail_any (typeIs_str s z t) slot_str_getitem.lookup (getItem_str (c := c) (by
    have e1 : decide (i < -(2 ^ 63 : Int)) = false := decide_eq_false (by omega)
    have e2 : decide (i ≥ 2 ^ 63) = false := decide_eq_false (by omega)
    rw [e1, e2, Bool.or_false]) (by rw [h1]; simpa using h2) ⟨.str ⟨#[c]⟩, H, I.tok _, ⟨_, rfl⟩, q⟩) hs
noncomputable def rIx (K : PySem.W.Frag) : R2 := fun x y H Q => rIxL K x y H Q ∨ rIxT K x y H Q ∨ rIxS x y H Q
theorem ix_seq : IxR X (rIx X.K) := ix_list.or (ix_tup.or ix_str)
noncomputable def eqV : V → V → Bool
  | .non, .non => true
  | .bl a, .bl b => a == b
  | .bl a, .int b => (if a then 1 else 0) == b
  | .int a, .bl b => a == (if b then 1 else 0)
  | .int a, .int b => a == b
  | .str a, .str b => a == b
  | _, _ => false
noncomputable def inV (x : V) (xs : List V) : Bool := xs.any fun y => eqV y x
theorem call_len_seq : CallR X (.builtin "len") (fun xs H Q => ∃ p ys, xs = [.ref p] ∧ (SqL X.K H p ys ∨ SqT X.K H p ys) ∧ Q (.int ys.length) H) := by
  intro pins s σ H xs us Q I r h
  obtain ⟨p, ys, rfl, hq, q⟩ := h
  obtain ⟨u, rfl, rx⟩ := vals1 r
  cases rx
  have hn := line63
  rcases hq with hq | hq
  · obtain ⟨its, r', pl, hz⟩ := I.list hq
    have hlen := r'.length
    exact Calls.call_len_list pl.isList (by simp only [List.size_toArray] <;> omega) ⟨.int ys.length, H, I.tok _, ⟨s.toks + 1, by rw [List.size_toArray, hlen]⟩, q⟩
  · obtain ⟨its, r', pl, hz⟩ := I.tuple hq
    have hlen := r'.length
    exact len_tuple pl (by simp only [List.size_toArray] <;> omega) ⟨.int ys.length, H, I.tok _, ⟨s.toks + 1, by rw [List.size_toArray, hlen]⟩, q⟩
theorem call_list_of : CallR X (.type "list") (fun xs H Q => ∃ p ys, xs = [.ref p] ∧ (SqL X.K H p ys ∨ SqT X.K H p ys) ∧ ∀ l, H l = none → Q (.ref l) (upd H l (.lst ys))) := by
  intro pins s σ H xs us Q I r h
  obtain ⟨p, ys, rfl, hq, q⟩ := h
  obtain ⟨u, rfl, rx⟩ := vals1 r
  cases rx
  have fin : ∀ (its : List Value), Vals ys its → ys.length ≤ sizeLine → ∀ (h' : Heap) (c' : Nat), (∀ b o', s.heap.get? b = some o' → h'.get? b = some o') →
      h'.get? s.heap.objs.size = some { cls := .type "list", dict := none, data := .seq its.toArray c', slots := #[] } → EP X pins σ Q (.ref s.heap.objs.size) { s with heap := h' } := fun its r' hz h' c' kp e =>
    ⟨.ref s.heap.objs.size, _, I.laid (t' := s.toks) kp (Nat.le_refl _) (show ObjOk X.prog X.w _ h' _ (.lst ys) from ⟨hz, its, c', r', e⟩), rfl, q _ (I.hok.fresh (Nat.le_refl _))⟩
  rcases hq with hq | hq
  · obtain ⟨its, r', pl, hz⟩ := I.list hq
    have hlen := r'.length
    obtain ⟨o, ho, hc, n, hd⟩ := pl.isList
    exact call_list_seq p (.inl rfl) ho hc hd (fun h' c' kp e => fin its r' hz h' c' kp e) (by simp only [List.size_toArray] <;> omega)
  · obtain ⟨its, r', pl, hz⟩ := I.tuple hq
    have hlen := r'.length
    obtain ⟨o, ho, hc, n, hd⟩ := pl
    exact call_list_seq p (.inr rfl) ho hc hd (fun h' c' kp e => fin its r' hz h' c' kp e) (by simp only [List.size_toArray] <;> omega)
theorem call_tuple_of : CallR X (.type "tuple") (fun xs H Q => ∃ p ys, xs = [.ref p] ∧ ((SqL X.K H p ys ∧ ∀ l, H l = none → Q (.ref l) (upd H l (.tup ys))) ∨ (SqT X.K H p ys ∧ Q (.ref p) H))) := by
  intro pins s σ H xs us Q I r h
  obtain ⟨p, ys, rfl, h⟩ := h
  obtain ⟨u, rfl, rx⟩ := vals1 r
  cases rx
  rcases h with ⟨hq, q⟩ | ⟨hq, q⟩
  · obtain ⟨its, r', pl, hz⟩ := I.list hq
    have hlen := r'.length
    refine call_tuple_list pl.isList (fun h' kp => ?_) (by simp only [List.size_toArray] <;> omega)
    have I1 : Inv X pins σ H { s with heap := h' } := I.kept (t' := s.toks) kp
    have I2 : Inv X pins σ (upd H h'.objs.size (.tup ys)) { s with heap := h'.push { cls := .type "tuple", data := .seq its.toArray } } :=
      I1.laid (t' := s.toks) (fun b o e => Heap.get?_push_of_some _ e) (Nat.le_refl _) (show ObjOk X.prog X.w _ _ _ (.tup ys) from ⟨hz, its, r', IsTup.new _ _⟩)
    exact ⟨.ref h'.objs.size, _, I2, rfl, q _ (I1.hok.fresh (Nat.le_refl _))⟩
  · obtain ⟨its, r', pl, hz⟩ := I.tuple hq
    exact call_tuple_same pl ⟨.ref p, H, I, rfl, q⟩
noncomputable def tyV (K : PySem.W.Frag) (T : String) (x : V) (H : Hp) : Prop := match x with
  | .str _ => T = "str"
  | .int _ => T = "int"
  | .ref p => (T = "list" ∧ ∃ xs, SqL K H p xs) ∨ (T = "tuple" ∧ ∃ o, K.lookup p = some o ∧ o.cls = .type "tuple" ∧ o.dict = none) ∨
      (T = "dict" ∧ ((∃ kvs, H p = some (.dK kvs)) ∨ ∃ kvs, H p = some (.dT kvs))) ∨ (T = "set" ∧ ∃ S n, H p = some (.set S n))
  | _ => False
theorem tyV_is {pins : List (Addr × Obj)} {σ : St} {H : Hp} {s : Shared} {T : String} {x : V} {v : Value} (I : Inv X pins σ H s) (r : RelV x v) (ty : tyV X.K T x H) :
    s.TypeIs v T ∧ ∀ a, v = .ref a → ∃ ob, s.heap.get? a = some ob ∧ ob.dict = none := by
  cases x with
  | str z =>
    obtain ⟨t, rfl⟩ := r
    cases (show T = "str" from ty)
    exact ⟨typeIs_str s z t, fun _ e => nomatch e⟩
  | int i =>
    obtain ⟨t, rfl⟩ := r
    cases (show T = "int" from ty)
    exact ⟨typeIs_int s i t, fun _ e => nomatch e⟩
  | ref p =>
    cases r
    rcases ty with ⟨rfl, xs, hq⟩ | ⟨rfl, o, hk, hc, hd⟩ | ⟨rfl, hk⟩ | ⟨rfl, S, n, hk⟩
    · obtain ⟨its, _, pl, _⟩ := I.list hq
      refine ⟨pl.isList.typeIs, fun a e => ?_⟩
      cases e
      obtain ⟨o, n, e, c, hd, _⟩ := pl
      exact ⟨o, e, hd⟩
    · refine ⟨⟨o, I.kIn p o hk, hc⟩, fun a e => ?_⟩
      cases e
      exact ⟨o, I.kIn _ o hk, hd⟩
    · have z : ∃ o, s.heap.get? p = some o ∧ o.ExactDict := by
        rcases hk with ⟨kvs, hk⟩ | ⟨kvs, hk⟩
        · obtain ⟨_, _, _, _, o, _, _, e, ex, _⟩ := I.hok p _ hk
          exact ⟨o, e, ex⟩
        · obtain ⟨_, _, _, _, o, _, _, e, ex, _⟩ := I.hok p _ hk
          exact ⟨o, e, ex⟩
      obtain ⟨o, e, ex⟩ := z
      refine ⟨⟨o, e, ex.1⟩, fun a e2 => ?_⟩
      cases e2
      exact ⟨o, e, ex.2.1⟩
    · obtain ⟨o, _, _, _, e, ex, _⟩ := I.hok p _ hk
      refine ⟨⟨o, e, ex.1⟩, fun a e2 => ?_⟩
      cases e2
      exact ⟨o, e, ex.2.1⟩
  | _ => exact False.elim ty
noncomputable def tBM (K : PySem.W.Frag) (T : String) (r : V → List V → Hp → VK → Prop) (to : TE) (t : TA) : TE := fun σ H Q => to σ H fun x H1 => tyV K T x H1 ∧ t σ H1 fun xs H2 => r x xs H2 Q
variable {o e : Expr} {es : List Expr} {to : TE} {t : TA} {name : Str} {apos cpos : Pos} {T id : String} {r : V → List V → Hp → VK → Prop}
theorem pe_bm (pa : PlainAttrs T) (slot : Slot T name id) (hty : typeOf (.builtin id) = pure (.type "method_descriptor")) (hm : MtR X id r) (ho : PE X o to) (ha : PA X (e :: es) t)
    (hbase : attributeBase o name X.env (eval o X.env) = eval o X.env := by rfl)
    (hfew : ((backTo cpos (starEach (e :: es) X.env)).all (fun x => !x.1) && (backToKw cpos (keywordEach [] X.env)).all (fun x => x.1.isSome)
      && decide ((e :: es).length + ([] : List Keyword).length + (if ([] : List Keyword).isEmpty then 0 else 1) < 30)) = true := by rfl)
    (hline : (apos.endLine == cpos.line) = true := by rfl) (hs : starEach (e :: es) X.env = (false, eval e X.env) :: starEach es X.env := by rfl) (hplain : (backTo cpos (starEach es X.env)).any (·.1) = false := by rfl) :
    PE X (.Call (.Attribute o name apos) (e :: es) [] cpos) (tBM X.K T r to t) := by
  intro pins s σ H Q I h
  refine wpAny_Call_method_late hbase hfew hline rfl (thn (ho pins s σ H _ I h) fun v s1 ⟨x, H1, I1, r1, ty, q1⟩ => ?_)
  obtain ⟨h1, h2⟩ := tyV_is I1 r1 ty
  refine ⟨T, id, pa, slot, hty, h1, h2, ?_⟩
  have hA := ha cpos pins s1 σ H1 _ I1 q1
  rw [hs] at hA ⊢
  refine Calls.callWith_builtin (by show (false || (backTo cpos (starEach es X.env)).any (·.1)) = false; rw [hplain] <;> rfl) (Calls.evalArgs_plain ?_)
  exact thn hA fun us s2 ⟨vs, H2, I2, r2, q2⟩ => hm pins s2 σ H2 x vs v us Q I2 r1 r2 q2
end
end L2
namespace L2
open PySem PySem.Spec PyProof.Rows
noncomputable def MtM (X : Cx) (id : String) (r : V → List V → Hp → VK → Prop) : Prop :=
  ∀ (pins : List (Addr × Obj)) (s : Shared) (σ : St) (H : Hp) (x : V) (xs : List V) (v : Value) (us : List Value) (Q : VK), Inv X pins σ H s → RelV x v → Vals xs us → r x xs H Q →
    wpAny (model X.prog X.w) X.A (call (.builtin id) (v :: us)) (EP X pins σ Q) X.xe s
theorem Vals.one {x : V} {us : List Value} (h : Vals [x] us) : ∃ u, us = [u] ∧ RelV x u := by
  cases h with
  | cons r e =>
    cases e
    exact ⟨_, rfl, r⟩
theorem Vals.two {x y : V} {us : List Value} (h : Vals [x, y] us) : ∃ u v, us = [u, v] ∧ RelV x u ∧ RelV y v := by
  cases h with
  | cons r t =>
    cases t with
    | cons q e =>
      cases e
      exact ⟨_, _, rfl, r, q⟩
section
variable {X : Cx} {pins : List (Addr × Obj)} {σ : St} {H : Hp} {s : Shared} {l b : Addr} {xs ys zs : List V}
theorem Inv.lset {its its' : List Value} {n : Nat} {f : Array Value → Array Value} {t' : Nat} (I : Inv X pins σ H s) (hH : H l = some (.lst xs))
    (e : s.heap.get? l = some { cls := .type "list", data := .seq its.toArray n }) (hf : f its.toArray = its'.toArray) (hv : Vals ys its') (hz : ys.length ≤ sizeLine) :
    Inv X pins σ (upd H l (.lst ys)) { s with heap := s.heap.update l (Obj.mapSeq f), toks := t' } := by
  have q := PySem.IsL.update e f
  rw [hf] at q
  refine I.write (x := l) (e := l) (by rw [hH]; exact trivial) (.inl rfl) (fun b' u hb hu => (Heap.get?_update_other s.heap (Obj.mapSeq f) (Ne.symm hb)).trans hu) ⟨_, q⟩ ?_
  exact ⟨hz, its', _, hv, q⟩
theorem Inv.lnew {its : List Value} {t' : Nat} (I : Inv X pins σ H s) (hv : Vals ys its) (hz : ys.length ≤ sizeLine) :
    Inv X pins σ (upd H s.heap.objs.size (.lst ys)) { s with heap := s.heap.push { cls := .type "list", data := .seq its.toArray }, toks := t' } :=
  I.laid (fun _ _ q => Heap.get?_push_of_some _ q) (Nat.le_refl _) ⟨hz, its, 0, hv, Heap.get?_push_size _ rfl⟩
theorem Inv.fresh (I : Inv X pins σ H s) : H s.heap.objs.size = none := I.hok.fresh (Nat.le_refl _)
theorem Inv.lstM (I : Inv X pins σ H s) (hH : H l = some (.lst xs)) : xs.length ≤ sizeLine ∧ ∃ (its : List Value) (n : Nat), Vals xs its ∧ xs.length = its.length ∧ s.heap.get? l = some { cls := .type "list", data := .seq its.toArray n } := by
  obtain ⟨z, its, n, r, e⟩ := I.hok l _ hH
  exact ⟨z, its, n, r, r.length, e⟩
theorem notLongL {n : Nat} (h : n ≤ sizeLine) : Builtin.List.listTooLong n = false := by
  unfold Builtin.List.listTooLong
  exact decide_eq_false (by omega)
end
section
variable {X : Cx}
noncomputable def rAppend : V → List V → Hp → VK → Prop := fun x vs H Q => ∃ l xs y, x = .ref l ∧ vs = [y] ∧ H l = some (.lst xs) ∧ xs.length < sizeLine ∧ Q .non (upd H l (.lst (xs ++ [y])))
theorem mt_append : MtM X "list.append" rAppend := by
  intro pins s σ H x vs v us Q I rx rv h
  obtain ⟨l, xs, y, rfl, rfl, hH, hz, q⟩ := h
  cases rx
  obtain ⟨u, rfl, ru⟩ := rv.one
  obtain ⟨z, its, n, r, hl, e⟩ := I.lstM hH
  refine call_meets F.slot_list_append ⟨_, e, rfl⟩ F.entry_list_append (F.args_list_append_2 _ _) (PySem.list_append l its.toArray n u (by rw [List.size_toArray]; omega)) ⟨e, ?_⟩
  refine ⟨.non, _, I.lset (its' := its ++ [u]) hH e (by simp) (r.append (.cons ru .nil)) ?_, rfl, q⟩
  rw [List.length_append, List.length_singleton]
  omega
noncomputable def rExtend : V → List V → Hp → VK → Prop := fun x vs H Q => ∃ l b xs zs, x = .ref l ∧ vs = [.ref b] ∧ H l = some (.lst xs) ∧ H b = some (.lst zs) ∧ xs.length + zs.length ≤ sizeLine ∧ Q .non (upd H l (.lst (xs ++ zs)))
theorem mt_extend : MtM X "list.extend" rExtend := by
  intro pins s σ H x vs v us Q I rx rv h
  obtain ⟨l, b, xs, zs, rfl, rfl, hH, hB, hz, q⟩ := h
  cases rx
  obtain ⟨u, rfl, ru⟩ := rv.one
  cases ru
  obtain ⟨z, its, n, r, hl, e⟩ := I.lstM hH
  obtain ⟨z2, its2, n2, r2, hl2, e2⟩ := I.lstM hB
  have hsz : its.toArray.size + its2.toArray.size ≤ sizeLine := by rw [List.size_toArray, List.size_toArray]; omega
  have hlong : ¬ (!its.toArray.isEmpty && Builtin.List.listTooLong (its.toArray.size + its2.toArray.size)) = true := by
    rw [notLongL hsz, Bool.and_false]
    exact Bool.false_ne_true
  refine call_meets F.slot_list_extend ⟨_, e, rfl⟩ F.entry_list_extend (F.args_list_extend_2 _ _)
    (AutoSeq1.list_extend_list_list_0 l its.toArray n b its2.toArray n2 hlong (by rw [List.size_toArray]; omega) (by omega)) ⟨e, e2, ?_⟩
  refine ⟨.non, _, I.lset (its' := its ++ its2) hH e (by simp) (r.append r2) ?_, rfl, q⟩
  rw [List.length_append]
  omega
noncomputable def rCat : R2 := fun x y H Q => ∃ l b xs zs, x = .ref l ∧ y = .ref b ∧ H l = some (.lst xs) ∧ H b = some (.lst zs) ∧ xs.length + zs.length ≤ sizeLine ∧ ∀ p, H p = none → Q (.ref p) (upd H p (.lst (xs ++ zs)))
theorem op_cat : OpR X (binaryOp .Add) rCat := by
  intro pins s σ H x y v u Q I rx ry h
  obtain ⟨l, b, xs, zs, rfl, rfl, hH, hB, hz, q⟩ := h
  cases rx
  cases ry
  obtain ⟨z, its, n, r, hl, e⟩ := I.lstM hH
  obtain ⟨z2, its2, n2, r2, hl2, e2⟩ := I.lstM hB
  refine PySem.P.add_list e e2 ?_ (by rw [List.size_toArray, List.size_toArray]; omega)
  have ea : its.toArray ++ its2.toArray = (its ++ its2).toArray := by simp
  rw [ea]
  exact ⟨.ref _, _, I.lnew (t' := s.toks) (r.append r2) (by rw [List.length_append]; omega), rfl, q _ I.fresh⟩
end
section
variable {prog : Program} {w : World} {A : Around} {E : Value → Shared → Prop} {s : Shared}
end
section
variable {X : Cx}
end
end L2
namespace L2
open PySem PySem.Spec PyProof.Rows
section
variable {κ : Type} [DecidableEq κ]
noncomputable def valV (kvs : List (κ × V)) (k : κ) : Option V := (kvs.find? fun kv => decide (kv.1 = k)).map (·.2)
theorem valV_pos {p : κ × V} {r : List (κ × V)} {k : κ} (e : p.1 = k) : valV (p :: r) k = some p.2 := by simp [valV, List.find?_cons, e]
theorem valV_neg {p : κ × V} {r : List (κ × V)} {k : κ} (e : ¬ p.1 = k) : valV (p :: r) k = valV r k := by simp [valV, List.find?_cons, e]
theorem valV_any (k : κ) : ∀ kvs : List (κ × V), (kvs.any fun kv => decide (kv.1 = k)) = (valV kvs k).isSome
  | [] => rfl
  | p :: r => by
    rw [List.any_cons]
    by_cases e : p.1 = k
    · simp only [valV_pos e, decide_eq_true e, Bool.true_or, Option.isSome_some]
    · rw [valV_neg e, decide_eq_false e, Bool.false_or]; exact valV_any k r
end
section
variable {P : Program} {w : World} {H : Hp} {h : Heap} {a : Addr}
end
section
variable {X : Cx} {pins : List (Addr × Obj)} {σ : St} {H : Hp} {s : Shared} {a : Addr} {y v : V} {u r : Value} {o : Option V} {A : Around} {E : Value → Shared → Prop}
end
section
variable {X : Cx} {pins : List (Addr × Obj)} {σ : St} {H : Hp} {s : Shared} {a : Addr} {kvs : List (Key × V)} {k : Key} {u : Value} {A : Around} {E : Value → Shared → Prop}
end
noncomputable def NoSl (i : Expr) : Prop := ∀ ov iv, subscripted i false ov iv = operate [ov, iv] (getItem ov iv)
theorem subD_of {prog : Program} {w : World} {A : Around} {E : Value → Shared → Prop} {s : Shared} {env : Env} {value slice : Expr} {pos : Pos} {T id : String} {Q : Value → Shared → Prop}
    (hl : typeLookup (.type T) "__getitem__" = pure (some (.builtin id))) (hs : NoSl slice)
    (h : wpAny (model prog w) A (eval value env) (fun o s₁ => wpAny (model prog w) A (eval slice env) (fun i s₂ => s₂.TypeIs o T ∧ wpAny (model prog w) A (getItem o i) Q E s₂) E s₁) E s) :
    wpAny (model prog w) A (eval (.Subscript value slice pos) env) Q E s := by
  refine Subscript_ (wpAny_mono h (fun o s₁ h₁ => wpAny_mono h₁ (fun i s₂ h₂ => ?_) fun _ _ x => x) fun _ _ x => x)
  obtain ⟨hT, h₂⟩ := h₂
  unfold subscriptTail
  refine wpAny_bind ?_
  rw [getitemInPython_of_ne hT.not_modules]
  refine wpAny_bind (wpAny_specialOf hT hl ?_)
  have fin : wpAny (model prog w) A (subscripted slice false o i) (fun r s₃ => wpAny (model prog w) A (letTemporaryGo value o r >>= fun _ => pure r) Q E s₃) E s₂ := by
    rw [hs o i]
    exact wpAny_operating (wpAny_mono h₂ (fun r s₃ h₃ => wpAny_bind (wpAny_letTemporaryGo (wpAny_pure h₃))) fun _ _ x => x)
  first
    | exact wpAny_pure (wpAny_bind fin)
    | exact wpAny_bind (wpAny_pure (wpAny_bind fin))
    | exact wpAny_bind fin
section
variable {X : Cx} {o i e value : Expr} {pos pos' tpos : Pos} {td ty tv : TE}
end
section
variable {X : Cx} {pos : Pos}
end
noncomputable def tPairs : List (TE × TE) → St → Hp → (List (V × V) → Hp → Prop) → Prop
  | [], _, H, Q => Q [] H
  | (tk, tv) :: r, σ, H, Q => tk σ H fun x H1 => tv σ H1 fun y H2 => tPairs r σ H2 fun ps H3 => Q ((x, y) :: ps) H3
noncomputable abbrev VV : List (V × V) → List (Value × Value) → Prop := Paired fun p q => RelV p.1 q.1 ∧ RelV p.2 q.2
noncomputable def PPs (X : Cx) (pos : Pos) (keys : List (Option Expr)) (values : List Expr) (trs : List (TE × TE)) : Prop :=
  ∀ (pins : List (Addr × Obj)) (s : Shared) (σ : St) (H : Hp) (Q : List (V × V) → Hp → Prop), Inv X pins σ H s → tPairs trs σ H Q →
    wpAny (model X.prog X.w) X.A (evalPairs (pairTrees keys values X.env pos)) (fun vs s' => ∃ ps H', Inv X pins σ H' s' ∧ VV ps vs ∧ Q ps H') X.xe s
structure M1 (X : Cx) (o : Expr) (m : Str) (apos : Pos) (e : Expr) (cpos : Pos) : Prop where
  base : attributeBase o m X.env (eval o X.env) = eval o X.env
  few : ((backTo cpos (starEach [e] X.env)).all (fun x => !x.1) && (backToKw cpos (keywordEach [] X.env)).all (fun x => x.1.isSome)
    && decide (([e] : List Expr).length + ([] : List Keyword).length + (if ([] : List Keyword).isEmpty then 0 else 1) < 30)) = true
  line : (apos.endLine == cpos.line) = true
  trees : backTo cpos (starEach [e] X.env) = [(false, eval e X.env)]
structure M2 (X : Cx) (o : Expr) (m : Str) (apos : Pos) (e f : Expr) (cpos : Pos) : Prop where
  base : attributeBase o m X.env (eval o X.env) = eval o X.env
  few : ((backTo cpos (starEach [e, f] X.env)).all (fun x => !x.1) && (backToKw cpos (keywordEach [] X.env)).all (fun x => x.1.isSome)
    && decide (([e, f] : List Expr).length + ([] : List Keyword).length + (if ([] : List Keyword).isEmpty then 0 else 1) < 30)) = true
  line : (apos.endLine == cpos.line) = true
  trees : backTo cpos (starEach [e, f] X.env) = [(false, eval e X.env), (false, eval f X.env)]
section
variable {X : Cx} {pins : List (Addr × Obj)} {σ : St} {H : Hp} {s : Shared} {a : Addr} {y d : V} {u r : Value} {o : Option V} {A : Around} {E : Value → Shared → Prop}
end
section
variable {X : Cx} {o e f : Expr} {apos cpos : Pos} {td ty tx : TE}
end
section
variable {X : Cx} {pins : List (Addr × Obj)} {σ : St} {H : Hp} {s : Shared} {a : Addr} {kvs : List (Key × V)} {A : Around} {E : Value → Shared → Prop}
end
section
variable {X : Cx} {pins : List (Addr × Obj)} {σ : St} {H : Hp} {s : Shared} {a : Addr} {y : V} {u : Value} {A : Around} {E : Value → Shared → Prop}
end
end L2
namespace Att
open PySem PySem.W PySem.Calls PyProof.Rows
theorem ints_of_wellAll {P : Params} {h : Heap} : ∀ (ns : List Int) (vs : List Value), WellAll P h vs (ns.map WData.int) → IntsAre vs ns := by
  intro ns
  induction ns with
  | nil =>
    intro vs w
    rw [List.map_nil] at w
    cases w
    exact .nil
  | cons n ns ih =>
    intro vs w
    rw [List.map_cons] at w
    cases w with
    | cons a b =>
      cases a
      exact .cons _ _ (ih _ b)
theorem script_of {l : OpenLaw} {n : Nat} (hn : l.most = some n) {P : Params} {h : Heap} {args : List WData} {vals : List Value}
    (hpre : l.row.toRowW.claim.pre args = true) (hwl : WellAll P h vals args) :
    ∃ a vs ns, vals = [Value.ref a] ∧ args = [WData.list (ns.map WData.int)] ∧ h.get? a = some { cls := .type "list", data := .seq vs.toArray } ∧ IntsAre vs ns ∧ ns.length ≤ n := by
  have hsh : WShape.hasAll [] args [.list .int] = true := (pre_splitW hpre).1
  have hc : l.pre.holds [] { args := args } = true := (pre_splitW hpre).2
  obtain ⟨d, r, rfl, h1, h2⟩ := hasAllW_cons hsh
  obtain rfl := hasAllW_nil h2
  obtain ⟨xs, rfl, h3⟩ := hasW_list h1
  obtain ⟨ns, rfl⟩ := items_int h3
  have hlen : ns.length ≤ n := by
    unfold OpenLaw.pre at hc
    have h4 : (WTm.not (.lt (.lit (.int (n : Int))) (.len (.arg 0)))).holds [] { args := [.list (ns.map .int)] } = true := by
      have h4 := (holds_andW hc).1
      rw [hn] at h4
      exact h4
    have h5 := condW_of h4 (w_not (w_lt w_lit (w_len_list (w_arg rfl))))
    rw [List.length_map] at h5
    refine Nat.le_of_not_lt fun q => ?_
    have q' : (n : Int) < ((ns.length : Nat) : Int) := by omega
    first
      | (rw [decide_eq_true q'] at h5; exact absurd h5 (by decide))
      | (simp at h5; omega)
  cases hwl with
  | cons w1 w2 =>
    cases w2
    cases w1 with
    | list ho hall => exact ⟨_, _, ns, rfl, rfl, ho, ints_of_wellAll ns _ hall, hlen⟩
theorem post_true (l : OpenLaw) (args : List WData) : l.row.toRowW.claim.post args (.bool true) args = true :=
  postW_of (r := l.row.toRowW) (X := (true == true))
    (show WShape.has [] (.bool true) .bool = true by first | rfl | decide | simp [WShape.has, WShape.arms, WShape.armsAll])
    (show (WTm.eq .res (.lit (.bool true))).value [] { args := args, res := some (.bool true), after := args } = some (.bool (true == true)) from w_eq_bool (w_res rfl) w_lit) rfl
theorem attach_call {l : OpenLaw} {n : Nat} {q : Program} {loose : List Str} {XP : (Str → Option Value) → Heap → Prop} {YP : World → Heap → Prop} {d : DefRec}
    (hn : l.most = some n) (hdf : d.params.defaults = [])
    (call : ∀ (w : World) (s₀ s₁ : Shared) (mg mb : Str → Option Value) (fa : Addr) (o : Obj) (pm cd doc : Value) (a : Addr) (vs : List Value) (ns : List Int),
      Ground q loose [] XP w s₀ mg mb s₁.heap → YP w s₁.heap →
      s₁.heap.get? fa = some o → o.data = .func (docDef d.name d.params d.body d.scope pm cd doc) → s₁.heap.CodeRec cd d.name → mg d.name = some (.ref fa) →
      s₁.heap.get? a = some { cls := .type "list", data := .seq vs.toArray } → IntsAre vs ns → ns.length ≤ n → s₁.gens = #[] →
      codeAny (model l.prog w) callerA (.call (.ref fa) ⟨[.ref a], []⟩) (fun r s' => r = .ok (.ret (.bool true)) ∧ OldK s₁.heap s'.heap ∧ s'.os = s₁.os ∧ AllBare s'.gens) s₁) :
    WalkO q loose XP YP l.row.toRowW d [] (fun f vs => PySem.call f vs) := by
  intro w s₀ s₁ mg mb G Y fa o pm cd doc dV kV ho hd hcd hD hmg hg args vals as hpre hlay hrd hwl hlo
  obtain rfl : dV = .none := Dflts.none hD hdf
  obtain rfl : kV = .none := Dflts.noKw hD
  obtain ⟨a, vs, ns, rfl, rfl, hobj, hints, hlen⟩ := script_of hn hpre hwl
  refine enter_call (codeAny_mono (call w s₀ s₁ mg mb fa o pm cd doc a vs ns G Y ho (fd_plain hd) hcd hmg hobj hints hlen hg) fun r s' hq => ?_)
  obtain ⟨rfl, h2, h3, h4⟩ := hq
  exact ⟨.inl ⟨.bool true, .bool true, [], rfl, fun _ => rfl, .bool true, post_true l _, fun _ => ⟨List.Pairwise.nil, fun _ hm => (nomatch hm)⟩⟩, h2, h3, h4⟩
section
variable {prog : Program} {w : World} {A : Around} {E : Value → Shared → Prop} {s : Shared} {K : Frag}
end
end Att
namespace L2
open PySem PySem.Spec PyProof.Rows
theorem vals_ints : ∀ {vs : List Value} {ns : List Int}, IntsAre vs ns → Vals (ns.map V.int) vs
  | _, _, .nil => .nil
  | _, _, .cons n t h => .cons ⟨t, rfl⟩ (vals_ints h)
end L2
namespace L2
open PySem PySem.Spec PyProof.Rows
noncomputable abbrev KOf {K : PySem.W.Frag} {h : Heap} (_ : K.In h) : PySem.W.Frag := K
end L2
namespace L2
open PySem PySem.Spec PyProof.Rows
noncomputable def inClass (s : Stmt) (j : Nat) : Stmt := match s with
  | .ClassDef _ _ _ body _ _ _ _ _ _ _ => body.getD j (.Pass ⟨0, 0, 0, 0⟩)
  | _ => .Pass ⟨0, 0, 0, 0⟩
noncomputable def defArgs (s : Stmt) : Arguments := match s with
  | .FunctionDef _ a _ _ _ _ _ _ _ _ => a
  | _ => { posonlyargs := [], args := [], vararg := none, kwonlyargs := [], kw_defaults := [], kwarg := none, defaults := [] }
noncomputable def defBody (s : Stmt) : List Stmt := match s with
  | .FunctionDef _ _ b _ _ _ _ _ _ _ => b
  | _ => []
noncomputable def defScope (s : Stmt) : Scope := match s with
  | .FunctionDef _ _ _ _ _ _ sc _ _ _ => sc
  | _ => { kind := .function, names := [], isGenerator := false, isCoroutine := false }
noncomputable abbrev CX0 : CXT := fun _ _ _ _ _ _ _ => False
noncomputable abbrev E0 : XK := fun _ _ _ => False
theorem pass0 {X : Cx} : Passes CX0 X E0 := fun _ _ _ _ _ _ _ h => h.elim
structure Fun (K : PySem.W.Frag) (x qual : Str) (st : Stmt) (f : Addr) (fd : FuncData) : Prop where
  ex : ∃ (oc : Value) (od : Option Addr) (kV doc pm : Value) (an : Option Addr) (cdv ct : Value) (osl : Array (Option Value)),
    fd = PySem.W.fnOf x qual (defArgs st) (defBody st) (defScope st) .none kV doc pm an cdv ct ∧ K.lookup f = some ⟨oc, od, .func fd, osl⟩ ∧ PySem.W.codeIn K cdv qual = true
  kp : PySem.W.keepIn K (.ref f) = true
section
variable {P : Program} {w : World} {K : PySem.W.Frag} {mg : Str → Option Value} {base : Heap}
theorem Fun.ok {x qual : Str} {st : Stmt} {f : Addr} {fd : FuncData} {N ps : List Str} {k : Nat} {sp : Sp} (F : Fun K x qual st f fd) (S : FnScope N ps (defScope st)) (len : ∀ vs H Q E, sp vs H Q E → vs.length = ps.length)
    (hbody : ∀ (cdv : Value) (A : Around) (outer : List Env) (s : Shared) (H : Hp) (vs : List V) (Q : VK) (E : XK), Room k (A.deeper (envOfC qual (defScope st) s.heap.objs.size f cdv)) → sp vs H Q E →
      ∃ t, PSs (cxOf CX0 P w K mg base N qual (defScope st) f cdv A outer s H E).nox (defBody st) t ∧ t { nx := fun _ H' => Q .non H', rt := Q } (start N vs) H) : FnOk P w K mg base CX0 (k + 1) f fd ps sp := by
  obtain ⟨oc, od, kV, doc, pm, an, cdv, ct, osl, rfl, lk, hcd⟩ := F.ex
  refine fn_of lk hcd S len fun A outer s H vs Q E hr hsp => ?_
  obtain ⟨t, h, q⟩ := hbody cdv A outer s H vs Q E hr hsp
  exact ⟨t, h.nox, q⟩
theorem Fun.binds {x qual : Str} {st : Stmt} {f : Addr} {fd : FuncData} {ps : List Str} (F : Fun K x qual st f fd)
    (h : ∀ (kV doc pm : Value) (an : Option Addr) (cdv ct : Value) (us : List Value), us.length = ps.length → bindArgs (PySem.W.fnOf x qual (defArgs st) (defBody st) (defScope st) .none kV doc pm an cdv ct) ⟨us, []⟩ = pure (ps.zip us)) : Binds K fd ps [] := by
  obtain ⟨oc, od, kV, doc, pm, an, cdv, ct, osl, rfl, lk, hcd⟩ := F.ex
  exact .all (h kV doc pm an cdv ct)
theorem fun_mk {x qual : Str} {st : Stmt} {f : Addr} {oc : Value} {od an : Option Addr} {osl : Array (Option Value)} {kV doc pm cdv ct : Value} (l : K.lookup f = some ⟨oc, od, .func (PySem.W.fnOf x qual (defArgs st) (defBody st) (defScope st) .none kV doc pm an cdv ct), osl⟩)
    (c : PySem.W.codeIn K cdv qual = true) (k : PySem.W.keepIn K (.ref f) = true) : Fun K x qual st f (PySem.W.fnOf x qual (defArgs st) (defBody st) (defScope st) .none kV doc pm an cdv ct) := ⟨⟨oc, od, kV, doc, pm, an, cdv, ct, osl, rfl, l, c⟩, k⟩
end
theorem hu_of {A : Around} {k : Nat} (hr : Room k A) : A.units + 1 < cLine := Nat.lt_of_le_of_lt (Nat.add_le_add_left (by decide : 1 ≤ 64) _) hr.units
section
variable {X : Cx}
theorem pv (i : Nat) {x : Str} {pos : Pos} (hN : X.N[i]? = some x := by rfl) (hv : Vis X.env.scope x := by first | exact Or.inl rfl | exact Or.inr (Or.inl rfl) | exact Or.inr (Or.inr rfl)) (hd : (x == ("__debug__" : Str)) = false := by decide)
    (hcd : (x == ("__classdict__" : Str)) = false := by decide) : PE X (.Name x pos) (tVar i) := pe_var hN hv hd hcd
end
theorem iteF {A B : Prop} (h : B) : if false = true then A else B := by
  rw [if_neg Bool.false_ne_true]
  exact h
theorem iteT {A B : Prop} (h : A) : if true = true then A else B := by
  rw [if_pos rfl]
  exact h
theorem ite2 {c A B : Prop} [Decidable c] (h1 : c → A) (h2 : ¬ c → B) : if c then A else B := by
  by_cases h : c
  · rw [if_pos h]
    exact h1 h
  · rw [if_neg h]
    exact h2 h
noncomputable def Same (H H' : Hp) : Prop := ∀ b o, H b = some o → H' b = some o
theorem Same.refl (H : Hp) : Same H H := fun _ _ h => h
theorem Same.trans {H H1 H2 : Hp} (a : Same H H1) (b : Same H1 H2) : Same H H2 := fun c o h => b c o (a c o h)
theorem Same.free {H H' : Hp} (e : Same H H') {l : Addr} (h : H' l = Option.none) : H l = Option.none := by
  cases q : H l with
  | none => rfl
  | some o =>
    rw [e l o q] at h
    cases h
theorem Same.seq {K : PySem.W.Frag} {H H' : Hp} {a : Addr} {xs : List V} (e : Same H H') (h : SqL K H a xs) : SqL K H' a xs := by
  rcases h with (h | ⟨o, h⟩) | h
  · exact .inl (.inl (e _ _ h))
  · exact .inl (.inr ⟨o, e _ _ h⟩)
  · exact .inr h
end L2
namespace L2
open PySem PySem.Spec PyProof.Rows
section
variable {X : Cx}
end
section
variable {κ : Type} [DecidableEq κ]
theorem valV_in {kvs : List (κ × V)} {k : κ} {v : V} (h : valV kvs k = some v) : k ∈ kvs.map (·.1) := by
  have q : (kvs.any fun kv => decide (kv.1 = k)) = true := by
    rw [valV_any, h]
    all_goals rfl
  obtain ⟨p, hp, e⟩ := List.any_eq_true.mp q
  exact List.mem_map.mpr ⟨p, hp, of_decide_eq_true e⟩
end
end L2
end
section
namespace L3
open PySem PySem.Spec PyProof.Rows L2
noncomputable def closedC (env : Env) : List (Str × NameKind) → List (Str × Addr) → List (Str × Addr)
  | [], cs => cs
  | (n, k) :: r, cs => closedC env r (if (k == .free) = true then (n, (env.cells.lookup n).getD 0) :: cs else cs)
theorem closedC_eq {env : Env} {scope : Scope} (h : ∀ x ∈ scope.names, x.2 = .free → ∃ c, env.cells.lookup x.1 = some c) : closureFor scope env = pure (closedC env scope.names []) := by
  unfold closureFor
  have go : ∀ (l : List (Str × NameKind)) (cs : List (Str × Addr)), (∀ x ∈ l, x.2 = .free → ∃ c, env.cells.lookup x.1 = some c) →
      (forIn l cs fun (x : Str × NameKind) (r : List (Str × Addr)) => if (x.2 == .free) = true then (do let a ← cellOf env x.1; pure (ForInStep.yield ((x.1, a) :: r))) else pure (ForInStep.yield r) : Sem (List (Str × Addr))) = pure (closedC env l cs) := by
    intro l
    induction l with
    | nil => intro cs _; rfl
    | cons x l ih =>
      intro cs hl
      obtain ⟨n, k⟩ := x
      have hr : ∀ y ∈ l, y.2 = .free → ∃ c, env.cells.lookup y.1 = some c := fun y hy => hl y (List.mem_cons_of_mem _ hy)
      rw [List.forIn_cons, closedC]
      by_cases hk : (k == NameKind.free) = true
      · obtain ⟨c, hc⟩ := hl (n, k) List.mem_cons_self (by simpa using hk)
        have hc : env.cells.lookup n = some c := hc
        have e : cellOf env n = pure c := by unfold cellOf; rw [hc]
        simp only [hk, if_true, e, pure_bind, hc, Option.getD_some]
        exact ih _ hr
      · simp only [hk, if_false, pure_bind]
        exact ih _ hr
  have q := go scope.names [] h
  simp only [bind_pure]
  exact q
theorem closedC_keep {env : Env} {x : Str} : ∀ (l : List (Str × NameKind)) (cs : List (Str × Addr)), (∃ c, cs.lookup x = some c) → ∃ c, (closedC env l cs).lookup x = some c
  | [], _, h => h
  | (n, k) :: r, cs, h => by
    rw [closedC]
    refine closedC_keep r _ ?_
    by_cases hk : (k == NameKind.free) = true
    · rw [if_pos hk, List.lookup_cons]
      cases x == n with
      | true => exact ⟨_, rfl⟩
      | false => exact h
    · rw [if_neg hk]; exact h
theorem closedC_has {env : Env} {x : Str} : ∀ (l : List (Str × NameKind)) (cs : List (Str × Addr)), (x, NameKind.free) ∈ l → ∃ c, (closedC env l cs).lookup x = some c
  | [], _, h => by cases h
  | (n, k) :: r, cs, h => by
    rw [closedC]
    rcases List.mem_cons.mp h with e | h
    · cases e
      refine closedC_keep r _ ?_
      rw [if_pos (by decide), List.lookup_cons, beq_self_eq_true]
      exact ⟨_, rfl⟩
    · exact closedC_has r _ h
theorem closedC_sound {env : Env} : ∀ (l : List (Str × NameKind)) (cs : List (Str × Addr)), (∀ x ∈ l, x.2 = .free → ∃ c, env.cells.lookup x.1 = some c) → (∀ x c, cs.lookup x = some c → env.cells.lookup x = some c) →
    ∀ x c, (closedC env l cs).lookup x = some c → env.cells.lookup x = some c
  | [], _, _, h => h
  | (n, k) :: r, cs, hl, h => by
    rw [closedC]
    refine closedC_sound r _ (fun y hy => hl y (List.mem_cons_of_mem _ hy)) fun x c e => ?_
    by_cases hk : (k == NameKind.free) = true
    · rw [if_pos hk, List.lookup_cons] at e
      cases hx : x == n with
      | true =>
        rw [hx] at e
        obtain rfl : x = n := by simpa using hx
        obtain ⟨c', hc'⟩ := hl (x, k) List.mem_cons_self (by simpa using hk)
        have hc' : env.cells.lookup x = some c' := hc'
        rw [hc'] at e ⊢
        exact e
      | false =>
        rw [hx] at e
        exact h x c e
    · rw [if_neg hk] at e
      exact h x c e
theorem relabel_free {env : Env} : ∀ {l : List (Str × NameKind)} {x : Str}, l.lookup x = some .free →
    (l.map fun (p : Str × NameKind) => if (p.2 == NameKind.free && env.scope.kind == .function && env.kindOf p.1 == some .cell) then (p.1, NameKind.cell) else (p.1, p.2)).lookup x = some .cell ∨
    (l.map fun (p : Str × NameKind) => if (p.2 == NameKind.free && env.scope.kind == .function && env.kindOf p.1 == some .cell) then (p.1, NameKind.cell) else (p.1, p.2)).lookup x = some .free
  | [], _, h => by simp at h
  | (n, k) :: r, x, h => by
    have ih := @relabel_free env r x
    rw [List.lookup_cons] at h
    rw [List.map_cons]
    by_cases hc : (k == NameKind.free && env.scope.kind == .function && env.kindOf n == some .cell) = true
    · simp only [hc, if_true]
      rw [List.lookup_cons]
      cases hx : x == n with
      | true => exact .inl rfl
      | false => rw [hx] at h; exact ih h
    · simp only [hc, Bool.false_eq_true, if_false]
      rw [List.lookup_cons]
      cases hx : x == n with
      | true => rw [hx] at h; exact .inr h
      | false => rw [hx] at h; exact ih h
theorem of_relabel {env : Env} : ∀ {l : List (Str × NameKind)} {x : Str}, (∀ y ∈ l, y.2 ≠ .cell) →
    ((l.map fun (p : Str × NameKind) => if (p.2 == NameKind.free && env.scope.kind == .function && env.kindOf p.1 == some .cell) then (p.1, NameKind.cell) else (p.1, p.2)).lookup x = some .cell ∨
    (l.map fun (p : Str × NameKind) => if (p.2 == NameKind.free && env.scope.kind == .function && env.kindOf p.1 == some .cell) then (p.1, NameKind.cell) else (p.1, p.2)).lookup x = some .free) → (x, NameKind.free) ∈ l
  | [], _, _, h => by simp at h
  | (n, k) :: r, x, hl, h => by
    have ih := @of_relabel env r x fun y hy => hl y (List.mem_cons_of_mem _ hy)
    rw [List.map_cons] at h
    by_cases hc : (k == NameKind.free && env.scope.kind == .function && env.kindOf n == some .cell) = true
    · simp only [hc, if_true] at h
      rw [List.lookup_cons] at h
      cases hx : x == n with
      | true =>
        obtain rfl : x = n := by simpa using hx
        have : k = .free := by simp only [Bool.and_eq_true] at hc; simpa using hc.1.1
        rw [this]
        exact List.mem_cons_self
      | false => rw [hx] at h; exact List.mem_cons_of_mem _ (ih h)
    · simp only [hc, Bool.false_eq_true, if_false] at h
      rw [List.lookup_cons] at h
      cases hx : x == n with
      | true =>
        rw [hx] at h
        obtain rfl : x = n := by simpa using hx
        rcases h with h | h
        · exact absurd (Option.some.inj h) (hl (x, k) List.mem_cons_self)
        · have : k = .free := Option.some.inj h
          rw [this]
          exact List.mem_cons_self
      | false => rw [hx] at h; exact List.mem_cons_of_mem _ (ih h)
noncomputable abbrev blkEnv (X : Cx) (scope : Scope) (C : Addr) : Env := compEnvC scope (closedC X.env scope.names []) C X.env
noncomputable abbrev blkCx (X : Cx) (N' : List Str) (scope : Scope) (s3 : Shared) (H3 : Hp) (fp : List Addr) : Cx :=
  { X with N := N', s₀ := s3, H₀ := H3, env := blkEnv X scope s3.heap.objs.size, outer := X.stack, stack := X.stack, ex := fp, fn := fun _ => false, pn := X.pn, xe := fun _ _ => False }
noncomputable def blkSt (own : Nat) (fr : List Nat) (σ : L2.St) : L2.St := List.replicate own none ++ fr.map fun i => (σ[i]?).join
structure BlkScope (X : Cx) (N' : List Str) (own : Nat) (fr : List Nat) (scope : Scope) : Prop where
  kind : scope.kind = .function
  nocell : ∀ y ∈ scope.names, y.2 ≠ .cell
  loc : ∀ x ∈ scope.names, x.2 = .local → scope.names.lookup x.1 = some .local
  free : ∀ x ∈ scope.names, x.2 = .free → X.env.kindOf x.1 = some .cell ∨ X.env.kindOf x.1 = some .free
  len : N'.length = own + fr.length
  fr : ∀ j i, fr[j]? = some i → ∃ x, N'[own + j]? = some x ∧ X.N[i]? = some x ∧ scope.names.lookup x = some .free
theorem un_sameBut {fs ex : List Addr} {H H' : Hp} {h h1 h2 : Heap} {C : Addr} (u : Un fs ex H H' h h1) (hC : h.objs.size ≤ C) (hs : Heap.SameBut C h1 h2) : Un fs ex H H' h h2 := by
  have ne : ∀ b o, h.get? b = some o → b ≠ C := fun b o e => Nat.ne_of_lt (Nat.lt_of_lt_of_le (Heap.lt_size e) hC)
  refine ⟨fun b o e n hb hx => (hs.2 b (ne b o e)).trans (u.keep b o e n hb hx), fun b o e n hb hx => ?_, u.free, fun b o e hx => ?_, u.tups, u.frzs, u.tbls⟩
  · obtain ⟨sl, q⟩ := u.slot b o e n hb hx
    exact ⟨sl, (hs.2 b (ne b o e)).trans q⟩
  · obtain ⟨o', q⟩ := u.there b o e hx
    exact ⟨o', (hs.2 b (ne b o e)).trans q⟩
theorem hok_sameBut {P : Program} {w : World} {H : Hp} {h h2 : Heap} {C : Addr} (k : HOk P w H h) (hC : H C = none) (hs : Heap.SameBut C h h2) : HOk P w H h2 := fun b ob e => by
  refine (k b ob e).stay (fun c w' hc q => (hs.2 c ?_).trans q) (fun _ q => q) fun _ _ q => q
  rintro rfl
  rcases hc with rfl | hc
  · rw [hC] at e; cases e
  · rw [hC] at hc; cases hc
noncomputable def PIf (Y : Cx) (ifs : List Expr) (tt : TT) : Prop :=
  ∀ (pins : List (Addr × Obj)) (s : Shared) (σ : L2.St) (H : Hp) (Q : Bool → Hp → Prop), Inv Y pins σ H s → tt σ H Q →
    wpAny (model Y.prog Y.w) Y.A (forIn ifs true fun c r => if r = true then do let ok ← isTrue c Y.env (eval c Y.env); pure (ForInStep.yield ok) else pure (ForInStep.yield r)) (TP Y pins σ Q) Y.xe s
noncomputable def tYes : TT := fun _ H Q => Q true H
theorem pif_nil {Y : Cx} : PIf Y [] tYes := fun _ _ _ H _ I h => wpAny_tests_nil ⟨H, I, h⟩
theorem pif_one {Y : Cx} {c : Expr} {t : TT} (h : PT Y c t) : PIf Y [c] t := fun pins s σ H Q I hq => wpAny_tests_one (h pins s σ H Q I hq)
section
variable {prog : Program} {w : World} {A : Around} {R : Result → Shared → Prop} {s : Shared}
theorem compLoop_go {elt target iter : Expr} {ifs : List Expr} {scope : Scope} {pos : Pos} {it acc : Value} {env : Env} (J : Nat → Shared → Prop)
    (turn : ∀ n s, J n s → wpAny (model prog w) A (pyNext it) (fun r s₁ => match r with
      | none => R (.ok .next) s₁
      | some v => wpAny (model prog w) A (letOwnedTupleGo target it v) (fun _ s₀ => wpAny (model prog w) A (assign target env v) (fun _ s₂ =>
          wpAny (model prog w) A (forIn ifs true fun c r => if r = true then do let ok ← isTrue c env (eval c env); pure (ForInStep.yield ok) else pure (ForInStep.yield r)) (fun ok s₃ =>
            if ok = true then wpAny (model prog w) A (eval elt env) (fun x s₄ =>
              wpAny (model prog w) A (call (.builtin "list.append") [acc, x]) (fun _ s₅ => ∃ m, m < n ∧ J m s₅) (fun _ _ => False) s₄) (fun _ _ => False) s₃
            else ∃ m, m < n ∧ J m s₃) (fun _ _ => False) s₂) (fun _ _ => False) s₀) (fun _ _ => False) s₁) (fun _ _ => False) s)
    (n : Nat) (h : J n s) :
    codeAny (model prog w) A (.compLoop (.ListComp elt [⟨target, iter, ifs, 0⟩] scope pos) 0 it acc env) R s := by
  refine codeAny_loop rfl J (fun n s hJ => ?_) n h
  show wpAny _ A ((compTurn (.ListComp elt [⟨target, iter, ifs, 0⟩] scope pos) 0 it acc env).onRaise (fun x => do noteFrame x env; theTreesLotGoes x)) _ _ s
  refine wpAny_noted ?_
  rw [compTurn_list]
  have no : ∀ {α : Type} {m : Sem α} {Q : α → Shared → Prop} {E' : Value → Shared → Prop} {s' : Shared}, wpAny (model prog w) A m Q (fun _ _ => False) s' → wpAny (model prog w) A m Q E' s' := fun hm => wpAny_mono hm (fun _ _ q => q) fun _ _ f => f.elim
  refine wpAny_bind (wpAny_standAt (wpAny_bind (no (wpAny_mono (turn n s hJ) (fun r s₁ h₁ => ?_) fun _ _ h' => h'))))
  cases r with
  | none => exact wpAny_pure h₁
  | some v =>
    refine wpAny_bind (no (wpAny_mono h₁ (fun _ s₀ h₀ => wpAny_bind (no (wpAny_mono h₀ (fun _ s₂ h₂ => wpAny_bind (no (wpAny_mono h₂ (fun ok s₃ h₃ => ?_) fun _ _ h' => h'))) fun _ _ h' => h'))) fun _ _ h' => h'))
    cases ok with
    | false => exact wpAny_pure ⟨rfl, h₃⟩
    | true =>
      exact wpAny_bind (wpAny_bind (no (wpAny_mono h₃ (fun x s₄ h₄ => wpAny_bind (no (wpAny_mono h₄ (fun _ s₅ h₅ => wpAny_pure (wpAny_pure ⟨rfl, h₅⟩)) fun _ _ h' => h'))) fun _ _ h' => h')))
end
noncomputable def Own (own : Nat) (g : TG) : Prop := ∀ v σ H Q, g v σ H Q → g v σ H fun σ4 H4 => Q σ4 H4 ∧ σ4.length = σ.length ∧ ∀ i, own ≤ i → σ4[i]? = σ[i]?
theorem own_name {own i : Nat} (h : i < own) : Own own (gName i) := fun v σ H Q q => ⟨q, by simp, fun j hj => List.getElem?_set_ne (by omega)⟩
theorem own_pair {own i j n : Nat} {K : PySem.W.Frag} (hi : i < own) (hj : j < own) : Own own (gTup K n (gCons (gName i) (gCons (gName j) gNil))) := by
  intro v σ H Q q
  obtain ⟨a, xs, e1, e2, e3, x, r, e4, y, r', e5, e6, q⟩ := q
  refine ⟨a, xs, e1, e2, e3, x, r, e4, y, r', e5, e6, q, by simp, fun k hk => ?_⟩
  rw [List.getElem?_set_ne (by omega), List.getElem?_set_ne (by omega)]
noncomputable def tComp (own : Nat) (fr : List Nat) (wi : TI) (g : TG) (tt : TT) (te : TE) : TE := fun σ H Q => wi σ H fun J H1 => ∀ p, H1 p = none → ∃ W : Nat → Nat → List V → Hp → Prop,
  (∃ m, W 0 m [] (upd H1 p (.lst []))) ∧ ∀ i m acc H2, W i m acc H2 → (J.stop i H2 ∧ Q (.ref p) H2) ∨ (J.go i H2 ∧ ∀ x H3, J.yld i H2 x H3 → g x (blkSt own fr σ) H3 fun σ4 H4 => tt σ4 H4 fun ok H5 =>
    if ok = true then te σ4 H5 fun v H6 => H6 p = some (.lst acc) ∧ acc.length < sizeLine ∧ ∃ m', m' < m ∧ W (i + 1) m' (acc ++ [v]) (upd H6 p (.lst (acc ++ [v])))
    else ∃ m', m' < m ∧ W (i + 1) m' acc H5)
theorem blk_inv {X : Cx} {scope : Scope} {N' : List Str} {own : Nat} {fr : List Nat} {pins : List (Addr × Obj)} {σ : L2.St} {H3 : Hp} {s3 : Shared} {h4 : Heap} {fp : List Addr} {t4 : Nat} {m : Str → Option Value} (S : BlkScope X N' own fr scope)
    (I3 : Inv X pins σ H3 s3) (hfp : ∀ b ∈ fp, FpOk X pins H3 b ∧ b < s3.heap.objs.size) (keep : ∀ b o, s3.heap.get? b = some o → h4.get? b = some o) (hns : h4.Ns s3.heap.objs.size m) :
    Inv (blkCx X N' scope s3 H3 fp) [] (blkSt own fr σ) H3 { s3 with heap := h4, toks := t4 } := by
  have hcs : ∀ x ∈ scope.names, x.2 = .free → ∃ c, X.env.cells.lookup x.1 = some c := fun x hx e => I3.ok.has x.1 (S.free x hx e)
  have snd : ∀ x c, (closedC X.env scope.names []).lookup x = some c → X.env.cells.lookup x = some c := closedC_sound _ _ hcs fun x c e => by simp at e
  have ok : (blkCx X N' scope s3 H3 fp).Ok := by
    refine ⟨I3.ok.mod, S.kind, I3.ok.glob, I3.ok.blt, Nat.le_refl _, fun x y c e1 e2 => I3.ok.inj x y c (snd x c e1) (snd y c e2), fun x hx => closedC_has _ _ (of_relabel S.nocell hx), fun x c z => (by cases z), I3.ok.hd, I3.ok.frames, .inl rfl,
      fun b hb => ⟨Nat.ne_of_lt (hfp b hb).2, fun x c e => (hfp b hb).1.2.2.2.2.1 x c (snd x c e)⟩, I3.bs, Nat.le_trans I3.ok.bsz I3.sz, fun b o e hb => ?_, fun b hb hz => ?_, I3.stack, I3.stkFree⟩
    · rcases (hfp b hb).1.2.2.2.1 with z | z
      · exact I3.ok.noex b o e z
      · exact absurd (Nat.lt_of_lt_of_le (Heap.lt_size e) I3.ok.bsz) (Nat.not_lt.mpr z)
    · rcases List.mem_cons.mp (I3.stkSub b hz) with z | z
      · exact (hfp b hb).1.2.1 z
      · exact (hfp b hb).1.2.2.1 z
  refine ⟨ok, rfl, I3.bare, Un.kept keep, ⟨m, hns, fun i x v h1 h2 h3 => ?_⟩, fun x c e => ?_, I3.hok.fresh (Nat.le_refl _), fun x c e => I3.freeC x c (snd x c e), fun p hp => ?_, I3.hok.kept keep, ?_⟩
  · have h1 : N'[i]? = some x := h1
    have hi : ¬ i < own := fun z => by
      unfold blkSt at h2
      rw [List.getElem?_append_left (by simpa using z), List.getElem?_replicate] at h2
      split at h2 <;> cases h2
    obtain ⟨j, rfl⟩ : ∃ j, i = own + j := ⟨i - own, by omega⟩
    unfold blkSt at h2
    rw [List.getElem?_append_right (by simp), List.length_replicate, Nat.add_sub_cancel_left, List.getElem?_map] at h2
    cases ek : fr[j]? with
    | none => rw [ek] at h2; cases h2
    | some k =>
      rw [ek] at h2
      have h2 : (σ[k]?).join = some v := Option.some.inj h2
      have hσ : σ[k]? = some (some v) := by
        cases q : σ[k]? with
        | none => rw [q] at h2; cases h2
        | some w' => rw [q] at h2; exact congrArg some h2
      obtain ⟨x', e1, e2, e3⟩ := S.fr j k ek
      rw [h1] at e1
      cases e1
      have mem := PySem.mem_of_lookup e3
      have hk := S.free _ mem rfl
      obtain ⟨m3, hn3, hl3⟩ := I3.loc
      obtain ⟨u, r, look⟩ := hl3 k x v e2 hσ (.inr hk)
      rcases look with ⟨q, _⟩ | ⟨q, c, hc, o, ho, hd⟩
      · rcases hk with z | z
        · have z : X.env.kindOf x = some .cell := z
          rw [z] at q; cases q
        · have z : X.env.kindOf x = some .free := z
          rw [z] at q; cases q
      · obtain ⟨c', e'⟩ := closedC_has (env := X.env) scope.names [] mem
        have e'' := snd x c' e'
        rw [hc] at e''
        cases e''
        exact ⟨u, r, .inr ⟨relabel_free e3, c, e', o, keep _ _ ho, hd⟩⟩
  · obtain ⟨v, o, ho, hd⟩ := I3.cell x c (snd x c e)
    exact ⟨v, o, keep _ _ ho, hd⟩
  · obtain ⟨q1, q2, q3, q4, q5⟩ := I3.pin p (List.mem_append_left _ (by simpa using hp))
    refine ⟨keep _ _ q1, q2, Nat.ne_of_lt (Heap.lt_size q1), fun z => ?_, q5⟩
    rcases List.mem_cons.mp (I3.stkSub _ z) with z | z
    · exact q3 z
    · exact q4 z
  · show (blkSt own fr σ).length = N'.length
    unfold blkSt
    rw [S.len, List.length_append, List.length_replicate, List.length_map]
theorem pe_comp {X : Cx} {tg iter elt : Expr} {ifs : List Expr} {scope : Scope} {pos : Pos} {wi : TI} {g : TG} {tt : TT} {te : TE} {N' : List Str} {own : Nat} {fr : List Nat} (hc : X.calm = true)
    (S : BlkScope X N' own fr scope) (hi : PI X tg iter wi) (ho : Own own g) (hg : ∀ s3 H3 fp, PG (blkCx X N' scope s3 H3 fp) tg g) (hf : ∀ s3 H3 fp, PIf (blkCx X N' scope s3 H3 fp) ifs tt) (he : ∀ s3 H3 fp, PE (blkCx X N' scope s3 H3 fp) elt te)
    (hs : ∀ x, foldedSetIterable iter X.env x = pure x := by intro _; rfl) : PE X (.ListComp elt [⟨tg, iter, ifs, 0⟩] scope pos) (tComp own fr wi g tt te) := by
  intro pins s σ H Q I h
  have hcs : ∀ x ∈ scope.names, x.2 = .free → ∃ c, X.env.cells.lookup x.1 = some c := fun x hx e => I.ok.has x.1 (S.free x hx e)
  rw [eval_ListComp]
  refine wpAny_comprehension_free (use := none) rfl hs (closedC_eq hcs) S.kind S.loc ?_
  refine thn (hi pins s σ H _ I h) fun v s1 h1 => thn h1 fun itv s2 h2 => ?_
  obtain ⟨it, fp, tn, J, H2, e, I2, T, st2, f2, h2⟩ := h2
  subst e
  refine wpAny_newObj_type (hd := by size_fits) (wpAny_newFunctionEnv S.nocell (by intro y hy; simp at hy) (fun h4 hns hsb => ?_) S.kind)
  have hp0 := I2.hok.fresh (Nat.le_refl s2.heap.objs.size)
  obtain ⟨W, ⟨m0, w0⟩, turn⟩ := h2 _ hp0
  have I3 : Inv X pins σ (upd H2 s2.heap.objs.size (.lst [])) { s2 with heap := s2.heap.push { cls := .type "list", dict := none, data := .seq ([] : List Value).toArray }, toks := s2.toks } := I2.lnew .nil (Nat.zero_le _)
  have lt2 : ∀ b ∈ fp, b < s2.heap.objs.size := fun b hb => let ⟨o, e, _⟩ := T.obj _ _ st2 b hb; Heap.lt_size e
  have up2 : ∀ b o, s2.heap.get? b = some o → ∀ ob : Obj, (s2.heap.push ob).get? b = some o := fun b o e ob => Heap.get?_push_of_some _ e
  have sz3 : (s2.heap.push { cls := .type "list", dict := none, data := .seq ([] : List Value).toArray }).objs.size = s2.heap.objs.size + 1 := Heap.size_push ..
  revert hns hsb I3
  generalize e3 : s2.heap.push { cls := .type "list", dict := none, data := .seq ([] : List Value).toArray } = h3 at sz3 ⊢
  intro hns hsb I3
  have keep : ∀ b o, h3.get? b = some o → h4.get? b = some o := fun b o e => (hsb.2 b (Nat.ne_of_lt (Heap.lt_size e))).trans (Heap.get?_push_of_some _ e)
  have fp3 : ∀ b ∈ fp, FpOk X pins (upd H2 s2.heap.objs.size (.lst [])) b ∧ b < h3.objs.size := fun b hb => by
    refine ⟨⟨?_, (f2 b hb).2⟩, by rw [sz3]; exact Nat.lt_succ_of_lt (lt2 b hb)⟩
    rw [upd_ne (Nat.ne_of_lt (lt2 b hb))]
    exact (f2 b hb).1
  have I4 := blk_inv (t4 := s2.toks + ([] : List (Str × Value)).length) S I3 fp3 keep hns
  have tn4 : tn 0 h4 := T.keep _ _ _ st2 fun b hb o e => keep b o (by rw [← e3]; exact up2 b o e _)
  have stat : ∀ {H' : Hp}, (∀ b ∈ fp, H' b = none) → ∀ b ∈ fp, FpOk (blkCx X N' scope { s2 with heap := h3, toks := s2.toks } (upd H2 s2.heap.objs.size (.lst [])) fp) [] H' b := fun {H'} hn b hb =>
    ⟨hn b hb, Nat.ne_of_lt (fp3 b hb).2, fun z => I4.ok.exfs b hb z, .inl hb, (I4.ok.exf b hb).2, fun p hp => (f2 b hb).2.2.2.2.2 p (List.mem_append_left _ (by simpa using hp))⟩
  have loop : ∀ sx : Shared, Inv (blkCx X N' scope { s2 with heap := h3, toks := s2.toks } (upd H2 s2.heap.objs.size (.lst [])) fp) [] (blkSt own fr σ) (upd H2 s2.heap.objs.size (.lst [])) sx → tn 0 sx.heap →
      codeAny (model X.prog X.w) X.A (.compLoop (.ListComp elt [⟨tg, iter, ifs, 0⟩] scope pos) 0 (.ref it) (.ref s2.heap.objs.size) (blkEnv X scope h3.objs.size)) (compPost (model X.prog X.w) X.A X.xe none (EP X pins σ Q) (.ref s2.heap.objs.size) h3.objs.size) sx := by
    intro sx Ix tx
    refine compLoop_go (fun n s' => ∃ i acc H', Inv (blkCx X N' scope { s2 with heap := h3, toks := s2.toks } (upd H2 s2.heap.objs.size (.lst [])) fp) [] (blkSt own fr σ) H' s' ∧ tn i s'.heap ∧ (∀ b ∈ fp, H' b = none) ∧ W i n acc H') ?_ m0 ⟨0, [], _, Ix, tx, fun b hb => (fp3 b hb).1.1, w0⟩
    rintro n s5 ⟨i, acc, H5, I5, st5, fr5, w5⟩
    rcases turn i n acc H5 w5 with ⟨stop, qn⟩ | ⟨go, step⟩
    · refine thn (T.done (blkCx X N' scope { s2 with heap := h3, toks := s2.toks } (upd H2 s2.heap.objs.size (.lst [])) fp) rfl rfl rfl hc i [] s5 _ H5 (fun _ _ => False) I5 (stat fr5) st5 stop) fun r s6 ⟨hr, I6⟩ => ?_
      subst hr
      obtain ⟨m6, hm6, _⟩ := id I6.loc
      refine ⟨m6, hm6, fun h7 hs7 => ⟨.ref s2.heap.objs.size, H5, ?_, rfl, qn⟩⟩
      exact I3.call' (s' := { s6 with heap := h7 }) (ch := fp) I6.os (un_sameBut I6.base (Nat.le_refl _) hs7) (hok_sameBut I6.hok I6.free hs7) I6.bare fun b hb => ⟨(f2 b hb).2.2.2.1, (f2 b hb).2.1, (f2 b hb).2.2.2.2.1, (f2 b hb).2.2.2.2.2⟩
    · refine thn (T.item (blkCx X N' scope { s2 with heap := h3, toks := s2.toks } (upd H2 s2.heap.objs.size (.lst [])) fp) rfl rfl rfl hc i [] s5 _ H5 (fun _ _ => False) I5 (stat fr5) st5 go) fun r s6 ⟨u, hr, h6⟩ => ?_
      subst hr
      refine thn h6 fun _ s7 ⟨x, H7, I7, r7, y7, st7, fr7⟩ => ?_
      have I7' := I7.pinned (stat fr7) (T.obj _ _ st7)
      refine thn (hg _ _ _ _ s7 _ H7 x u _ I7' r7 (ho _ _ _ _ (step x H7 y7))) fun _ s8 ⟨σ8, H8, I8, q8, l8, k8⟩ => ?_
      have again : ∀ {H9 : Hp} {s9 : Shared}, Inv (blkCx X N' scope { s2 with heap := h3, toks := s2.toks } (upd H2 s2.heap.objs.size (.lst [])) fp) ([] ++ pinsAt fp s7.heap) σ8 H9 s9 →
          Inv (blkCx X N' scope { s2 with heap := h3, toks := s2.toks } (upd H2 s2.heap.objs.size (.lst [])) fp) [] (blkSt own fr σ) H9 s9 ∧ tn (i + 1) s9.heap ∧ ∀ b ∈ fp, H9 b = none := fun {H9 s9} I9 => by
        refine ⟨I9.unpinned.weak l8.symm fun j v e => ?_, T.keep _ _ _ st7 fun b hb o e => (I9.pin (b, o) (List.mem_append_right _ (List.mem_append_right _ (mem_pinsAt hb e)))).1, fun b hb => ?_⟩
        · have hj : own ≤ j := by
            refine Nat.le_of_not_lt fun z => ?_
            unfold blkSt at e
            rw [List.getElem?_append_left (by simpa using z), List.getElem?_replicate] at e
            split at e <;> cases e
          rw [k8 j hj]
          exact e
        · obtain ⟨o, e, _⟩ := T.obj _ _ st7 b hb
          exact (I9.pin (b, o) (List.mem_append_right _ (List.mem_append_right _ (mem_pinsAt hb e)))).2.1
      refine thn (hf _ _ _ _ s8 σ8 H8 _ I8 q8) fun ok s9 ⟨H9, I9, q9⟩ => ?_
      cases ok with
      | false =>
        obtain ⟨m', hm', w9⟩ := q9
        obtain ⟨a1, a2, a3⟩ := again I9
        exact ⟨m', hm', i + 1, acc, H9, a1, a2, a3, w9⟩
      | true =>
        refine thn (he _ _ _ _ s9 σ8 H9 _ I9 q9) fun y s10 ⟨v, H10, I10, r10, hD10, hl10, m', hm', w10⟩ => ?_
        refine thn (mt_append _ s10 σ8 H10 (.ref s2.heap.objs.size) [v] (.ref s2.heap.objs.size) [y] (fun _ Hn => Hn = upd H10 s2.heap.objs.size (.lst (acc ++ [v]))) I10 rfl (.cons r10 .nil) ⟨_, acc, v, rfl, rfl, hD10, hl10, rfl⟩) fun _ s11 ⟨_, H11, I11, _, e11⟩ => ?_
        subst e11
        obtain ⟨a1, a2, a3⟩ := again I11
        exact ⟨m', hm', i + 1, acc ++ [v], _, a1, a2, a3, w10⟩
  exact codeAny_compStart_list (loop _ I4 tn4) (wpAny_mono (T.self X.A 0 _ (fun v s' => v = .ref it ∧ s' = _) (fun _ _ => False) tn4 ⟨rfl, rfl⟩) (fun v s' ⟨e1, e2⟩ => by subst e1; subst e2; exact loop _ I4 tn4) fun _ _ f => f.elim)
noncomputable def Nx (n i : Nat) (P : Prop) : Prop := ∃ m', m' < n - i ∧ m' = n - (i + 1) ∧ i + 1 ≤ n ∧ P
theorem nx {n i : Nat} {P : Prop} (h : i < n) (p : P) : Nx n i P := ⟨n - (i + 1), by omega, rfl, h, p⟩
theorem comp_by {J : It} {p : Addr} {H1 : Hp} {g : TG} {tt : TT} {te : TE} {b : L2.St} {Q : VK} (n : Nat) (Pv : Nat → List V → Hp → Prop) (h0 : Pv 0 [] (upd H1 p (.lst [])))
    (hgo : ∀ i acc H2, i < n → Pv i acc H2 → J.go i H2 ∧ ∀ x H3, J.yld i H2 x H3 → g x b H3 fun σ4 H4 => tt σ4 H4 fun ok H5 =>
      if ok = true then te σ4 H5 fun v H6 => H6 p = some (.lst acc) ∧ acc.length < sizeLine ∧ Nx n i (Pv (i + 1) (acc ++ [v]) (upd H6 p (.lst (acc ++ [v])))) else Nx n i (Pv (i + 1) acc H5))
    (hd : ∀ acc H2, Pv n acc H2 → J.stop n H2 ∧ Q (.ref p) H2) :
    ∃ W : Nat → Nat → List V → Hp → Prop, (∃ m, W 0 m [] (upd H1 p (.lst []))) ∧ ∀ i m acc H2, W i m acc H2 → (J.stop i H2 ∧ Q (.ref p) H2) ∨ (J.go i H2 ∧ ∀ x H3, J.yld i H2 x H3 → g x b H3 fun σ4 H4 => tt σ4 H4 fun ok H5 =>
      if ok = true then te σ4 H5 fun v H6 => H6 p = some (.lst acc) ∧ acc.length < sizeLine ∧ ∃ m', m' < m ∧ W (i + 1) m' (acc ++ [v]) (upd H6 p (.lst (acc ++ [v]))) else ∃ m', m' < m ∧ W (i + 1) m' acc H5) := by
  refine ⟨fun i m acc H => m = n - i ∧ i ≤ n ∧ Pv i acc H, ⟨n, by simp, Nat.zero_le _, h0⟩, ?_⟩
  rintro i m acc H2 ⟨rfl, hi, w⟩
  by_cases hlt : i < n
  · exact .inr (hgo i acc H2 hlt w)
  · obtain rfl : i = n := by omega
    exact .inl (hd acc H2 w)
end L3
end
section
namespace L3
open PySem L2
section
variable {prog : Program} {w : World} {A : Around} {E : Value → Shared → Prop} {s : Shared}
end
structure ZApart (z TI TO i1 i2 : Nat) (f1 f2 : List Nat) : Prop where
  TIz : TI ≠ z
  TOz : TO ≠ z
  TITO : TI ≠ TO
  TI1 : TI ≠ i1
  TI2 : TI ≠ i2
  TO1 : TO ≠ i1
  TO2 : TO ≠ i2
  i1z : i1 ≠ z
  i2z : i2 ≠ z
  zf1 : z ∉ f1
  zf2 : z ∉ f2
  Tf1 : TO ∉ f1
  Tf2 : TO ∉ f2
  i2f1 : i2 ∉ f1
  i1f2 : i1 ∉ f2
section
variable {prog : Program} {w : World} {A : Around} {E : Value → Shared → Prop} {s : Shared}
variable {z TI TO i1 i2 : Addr} {f1 f2 : List Addr} {n1 n2 : Nat} {P1 P2 : Nat → Value → Prop} {S1 S2 : Nat → Heap → Prop}
theorem zip_stepD {i : Nat} {a b : Value} {Q : Value → Shared → Prop} (D1 : Draws prog w A i1 f1 n1 P1 S1) (D2 : Draws prog w A i2 f2 n2 P2 S2) (ap : ZApart z TI TO i1 i2 f1 f2)
    (gz : IsZip s.heap z TI TO .none) (gTI : IsPair s.heap TI (.ref i1) (.ref i2)) (gTO : IsPair s.heap TO a b) (s1 : S1 i s.heap) (s2 : S2 i s.heap) (l1 : i < n1) (l2 : i < n2)
    (hQ : ∀ x y h' tk, P1 i x → P2 i y → IsZip h' z TI TO (rawInt s.heap.objs.size) → IsPair h' TO x y → S1 (i + 1) h' → S2 (i + 1) h' → IsPair h' s.heap.objs.size x y →
      (∀ c o, c ≠ z → c ≠ TO → c ≠ i1 → c ≠ i2 → s.heap.get? c = some o → h'.get? c = some o) → Q (.ref s.heap.objs.size) { s with heap := h', toks := tk }) :
    wpAny (model prog w) A (Builtin.«zip.__next__» ⟨[.ref z], []⟩) (fun fin s' => ∃ v, fin = .done (.ret v) ∧ Q v s') E s := by
  have fr1 : ∀ {k : Nat} {h h' : Heap} {c : Addr}, c ∉ f1 → Heap.SameBut c h h' → S1 k h → S1 k h' := fun {k h h' c} hc sb st => D1.frame _ _ _ st fun q hq o e => (sb.2 q fun z => hc (z ▸ hq)).trans e
  have fr2 : ∀ {k : Nat} {h h' : Heap} {c : Addr}, c ∉ f2 → Heap.SameBut c h h' → S2 k h → S2 k h' := fun {k h h' c} hc sb st => D2.frame _ _ _ st fun q hq o e => (sb.2 q fun z => hc (z ▸ hq)).trans e
  show wpAny (model prog w) _ (field (.ref z) 2 >>= _) _ _ _
  refine wpAny_bind (wpAny_field gz rfl (x := .bool false) rfl ?_)
  show wpAny (model prog w) _ (field (.ref z) 3 >>= _) _ _ _
  refine wpAny_bind (wpAny_field gz rfl (x := .ref TI) rfl ?_)
  refine wpAny_bind (wpAny_seqItems gTI rfl ?_)
  show wpAny (model prog w) _ (Builtin.SmallTypes.ownedTupleIsFree (.ref z) >>= _) _ _ _
  refine wpAny_bind ?_
  unfold Builtin.SmallTypes.ownedTupleIsFree
  refine wpAny_bind (wpAny_field gz rfl (x := .none) rfl (wpAny_pure ?_))
  simp only [if_true]
  refine wpAny_bind (wpAny_rule ?_)
  refine wpAny_bind (wpAny_field gz rfl (x := .ref TO) rfl ?_)
  refine wpAny_bind (wpAny_setField_rec gz (by simp) fun k1 z1 b1 => ?_)
  replace z1 : IsZip k1 z TI TO .ellipsis := z1
  refine wpAny_bind ?_
  simp only [List.zipIdx_cons, List.zipIdx_nil, List.forIn_cons, List.forIn_nil]
  refine wpAny_bind (wpAny_bind (wpAny_onRaise ?_))
  show wpAny (model prog w) _ (Builtin.SmallTypes.nextOf (.ref i1) >>= _) _ _ _
  refine wpAny_bind (D1.item i _ _ _ l1 (fr1 ap.zf1 b1 s1) fun x k2 t2 px q2 b2 => wpAny_pure ?_)
  have o2 : IsPair k2 TO a b := b2.extBut _ _ ap.TO1 (b1.extBut _ _ ap.TOz gTO)
  refine wpAny_bind (wpAny_seqItems o2 rfl ?_)
  refine wpAny_bind (wpAny_updateSeq_pair o2 fun k3 o3 b3 => ?_)
  replace o3 : IsPair k3 TO x b := o3
  refine wpAny_bind (wpAny_letGo (wpAny_pure ?_))
  refine wpAny_bind (wpAny_bind (wpAny_onRaise ?_))
  show wpAny (model prog w) _ (Builtin.SmallTypes.nextOf (.ref i2) >>= _) _ _ _
  refine wpAny_bind (D2.item i _ _ _ l2 (fr2 ap.Tf2 b3 (fr2 ap.i1f2 b2 (fr2 ap.zf2 b1 s2))) fun y k4 t4 py q4 b4 => wpAny_pure ?_)
  have o4 : IsPair k4 TO x b := b4.extBut _ _ ap.TO2 o3
  refine wpAny_bind (wpAny_seqItems o4 rfl ?_)
  refine wpAny_bind (wpAny_updateSeq_pair o4 fun k5 o5 b5 => ?_)
  replace o5 : IsPair k5 TO x y := o5
  refine wpAny_bind (wpAny_letGo (wpAny_pure (wpAny_pure ?_)))
  refine wpAny_bind (wpAny_seqItems o5 rfl ?_)
  refine wpAny_bind (wpAny_newTuple ?_)
  have sz : k5.objs.size = s.heap.objs.size := by rw [b5.1, b4.1, b3.1, b2.1, b1.1]
  have z5 : IsZip k5 z TI TO .ellipsis := b5.extBut _ _ ap.TOz.symm (b4.extBut _ _ ap.i2z.symm (b3.extBut _ _ ap.TOz.symm (b2.extBut _ _ ap.i1z.symm z1)))
  have kp : ∀ c o, c ≠ z → c ≠ TO → c ≠ i1 → c ≠ i2 → s.heap.get? c = some o → k5.get? c = some o := fun c o c1 c2 c3 c4 e =>
    b5.extBut _ _ c2 (b4.extBut _ _ c4 (b3.extBut _ _ c2 (b2.extBut _ _ c3 (b1.extBut _ _ c1 e))))
  have q1' : S1 (i + 1) k5 := fr1 ap.Tf1 b5 (fr1 ap.i2f1 b4 (fr1 ap.Tf1 b3 q2))
  have q2' : S2 (i + 1) k5 := fr2 ap.Tf2 b5 q4
  have lz : z < k5.objs.size := Heap.lt_size z5
  show wpAny (model prog w) _ (Builtin.SmallTypes.ownedTupleHandOut (.ref z) (.ref k5.objs.size) >>= _) _ _ _
  refine wpAny_bind ?_
  unfold Builtin.SmallTypes.ownedTupleHandOut
  have z6 : IsZip (k5.push { cls := .type "tuple", data := .seq #[x, y] }) z TI TO .ellipsis := Heap.get?_push_of_some _ z5
  refine wpAny_bind (wpAny_setField_rec z6 (by simp) fun k7 z7 b7 => ?_)
  replace z7 : IsZip k7 z TI TO (rawInt k5.objs.size) := z7
  refine wpAny_setField_rec z7 (by simp) fun k8 z8 b8 => ?_
  replace z8 : IsZip k8 z TI TO (rawInt k5.objs.size) := z8
  have up : ∀ c o, c ≠ z → k5.get? c = some o → k8.get? c = some o := fun c o c1 e => b8.extBut _ _ c1 (b7.extBut _ _ c1 (Heap.get?_push_of_some _ e))
  have t8 : IsPair k8 k5.objs.size x y := b8.extBut _ _ (Nat.ne_of_gt lz) (b7.extBut _ _ (Nat.ne_of_gt lz) (Heap.get?_push_size _ rfl))
  rw [sz] at z8 t8
  refine wpAny_pure ⟨_, rfl, ?_⟩
  show Q (.ref k5.objs.size) _
  rw [sz]
  exact hQ x y k8 _ px py z8 (up _ _ ap.TOz o5) (D1.frame _ _ _ q1' fun q hq o e => up q o (fun z => ap.zf1 (z ▸ hq)) e) (D2.frame _ _ _ q2' fun q hq o e => up q o (fun z => ap.zf2 (z ▸ hq)) e) t8 fun c o c1 c2 c3 c4 e => up c o c1 (kp c o c1 c2 c3 c4 e)
theorem zip_doneD {a b : Value} {Q : Fin → Shared → Prop} (D1 : Draws prog w A i1 f1 n1 P1 S1) (ap : ZApart z TI TO i1 i2 f1 f2)
    (gz : IsZip s.heap z TI TO .none) (gTI : IsPair s.heap TI (.ref i1) (.ref i2)) (gTO : IsPair s.heap TO a b) (s1 : S1 n1 s.heap)
    (hE : ∀ h' e, (∀ c o, c ≠ z → c ≠ TO → c ≠ i1 → c ≠ i2 → s.heap.get? c = some o → h'.get? c = some o) → (∃ o, h'.get? e = some o ∧ o.cls = .type "StopIteration") → E (.ref e) { s with heap := h' }) :
    wpAny (model prog w) A (Builtin.«zip.__next__» ⟨[.ref z], []⟩) Q E s := by
  show wpAny (model prog w) _ (field (.ref z) 2 >>= _) _ _ _
  refine wpAny_bind (wpAny_field gz rfl (x := .bool false) rfl ?_)
  show wpAny (model prog w) _ (field (.ref z) 3 >>= _) _ _ _
  refine wpAny_bind (wpAny_field gz rfl (x := .ref TI) rfl ?_)
  refine wpAny_bind (wpAny_seqItems gTI rfl ?_)
  show wpAny (model prog w) _ (Builtin.SmallTypes.ownedTupleIsFree (.ref z) >>= _) _ _ _
  refine wpAny_bind ?_
  unfold Builtin.SmallTypes.ownedTupleIsFree
  refine wpAny_bind (wpAny_field gz rfl (x := .none) rfl (wpAny_pure ?_))
  simp only [if_true]
  refine wpAny_bind (wpAny_rule ?_)
  refine wpAny_bind (wpAny_field gz rfl (x := .ref TO) rfl ?_)
  refine wpAny_bind (wpAny_setField_rec gz (by simp) fun k1 z1 b1 => ?_)
  replace z1 : IsZip k1 z TI TO .ellipsis := z1
  refine wpAny_bind ?_
  simp only [List.zipIdx_cons, List.zipIdx_nil, List.forIn_cons, List.forIn_nil]
  refine wpAny_bind (wpAny_bind (wpAny_onRaise ?_))
  show wpAny (model prog w) _ (Builtin.SmallTypes.nextOf (.ref i1) >>= _) _ _ _
  refine wpAny_bind (D1.done _ _ _ (D1.frame _ _ _ s1 fun q hq o e => (b1.2 q fun y => ap.zf1 (y ▸ hq)).trans e) fun k2 e b2 he => ?_)
  obtain ⟨oe, ee, ce⟩ := he
  have z2 : IsZip k2 z TI TO .ellipsis := b2 _ _ ap.i1z.symm z1
  have nz : e ≠ z := fun q => by
    subst q
    rw [z2] at ee
    cases ee
    simp at ce
  refine wpAny_setField_rec z2 (by simp) fun k3 _ b3 => hE k3 e (fun c o c1 _ c3 _ q => b3.extBut _ _ c1 (b2 _ _ c3 (b1.extBut _ _ c1 q))) ⟨oe, b3.extBut _ _ nz ee, ce⟩
theorem zip_nextD {i : Nat} {a b : Value} {Q : Option Value → Shared → Prop} (D1 : Draws prog w A.in1 i1 f1 n1 P1 S1) (D2 : Draws prog w A.in1 i2 f2 n2 P2 S2) (ap : ZApart z TI TO i1 i2 f1 f2)
    (gz : IsZip s.heap z TI TO .none) (gTI : IsPair s.heap TI (.ref i1) (.ref i2)) (gTO : IsPair s.heap TO a b) (s1 : S1 i s.heap) (s2 : S2 i s.heap) (l1 : i < n1) (l2 : i < n2)
    (hQ : ∀ x y h' tk, P1 i x → P2 i y → IsZip h' z TI TO (rawInt s.heap.objs.size) → IsPair h' TO x y → S1 (i + 1) h' → S2 (i + 1) h' → IsPair h' s.heap.objs.size x y →
      (∀ c o, c ≠ z → c ≠ TO → c ≠ i1 → c ≠ i2 → s.heap.get? c = some o → h'.get? c = some o) → Q (some (.ref s.heap.objs.size)) { s with heap := h', toks := tk }) :
    wpAny (model prog w) A (pyNext (.ref z)) Q E s := by
  have ty : s.TypeIs (.ref z) "zip" := ⟨_, gz, rfl⟩
  unfold pyNext
  refine wpAny_bind (wpAny_attempt (wpAny_callSpecial?_slot (name := Str.ofString "__next__") ty F.slot_zip_next (wpAny_call_entry F.slot_zip_next ty F.entry_zip_next ?_ (F.args_zip_next_1 _))))
  exact zip_stepD D1 D2 ap gz gTI gTO s1 s2 l1 l2 fun x y h' tk a1 a2 a3 a4 a5 a6 a7 a8 => wpAny_pure (hQ x y h' tk a1 a2 a3 a4 a5 a6 a7 a8)
theorem zip_stopD {a b : Value} {Q : Option Value → Shared → Prop} (D1 : Draws prog w A.in1 i1 f1 n1 P1 S1) (ap : ZApart z TI TO i1 i2 f1 f2)
    (gz : IsZip s.heap z TI TO .none) (gTI : IsPair s.heap TI (.ref i1) (.ref i2)) (gTO : IsPair s.heap TO a b) (s1 : S1 n1 s.heap)
    (hQ : ∀ h', (∀ c o, c ≠ z → c ≠ TO → c ≠ i1 → c ≠ i2 → s.heap.get? c = some o → h'.get? c = some o) → Q none { s with heap := h' }) : wpAny (model prog w) A (pyNext (.ref z)) Q E s := by
  have ty : s.TypeIs (.ref z) "zip" := ⟨_, gz, rfl⟩
  unfold pyNext
  refine wpAny_bind (wpAny_attempt (wpAny_callSpecial?_slot (name := Str.ofString "__next__") ty F.slot_zip_next (wpAny_call_entry F.slot_zip_next ty F.entry_zip_next (zip_doneD D1 ap gz gTI gTO s1 fun h' e hk he => ?_) (F.args_zip_next_1 _))))
  obtain ⟨o, ho, hc⟩ := he
  refine wpAny_bind (wpAny_isInstance (T := "StopIteration") (b := true) ⟨o, ho, hc⟩ isSubtype_stop (wpAny_pure (hQ _ hk)))
end
section
variable {prog : Program} {w : World} {A : Around} {E : Value → Shared → Prop} {s : Shared}
end
end L3
end
section
namespace L3
open PySem PySem.Spec PyProof.Rows L2
section
variable {X : Cx} {pins : List (Addr × Obj)} {σ : L2.St} {H : Hp} {s : Shared} {h' : Heap}
theorem turnedNew {t' : Nat} {ch : List Addr} {T : Addr} {o : HO} (I : Inv X pins σ H s) (k : ∀ b ob, b ∉ ch → s.heap.get? b = some ob → h'.get? b = some ob) (hf : ∀ b ∈ ch, FpOk X pins H b) (hT : s.heap.objs.size ≤ T)
    (new : ObjOk X.prog X.w (upd H T o) h' T o) : Inv X pins σ (upd H T o) { s with heap := h', toks := t' } := by
  have hn : H T = none := I.hok.fresh hT
  have nch : ∀ b u, H b = some u → b ∉ ch := fun b u e z => by rw [(hf b z).1] at e; cases e
  refine I.step (g' := s.gens) (d' := s.drawn) (ch := ch) (fun b hb => ⟨(hf b hb).2.2.2.1, (hf b hb).2.1, (hf b hb).2.2.2.2.1, (hf b hb).2.2.2.2.2⟩) (fun b ob _ _ hc e _ => k b ob hc e) (fun b ob _ _ hc e _ => ⟨ob.slots, k b ob hc e⟩)
    (fun b ob _ e n => by rw [upd_ne (Nat.ne_of_lt (Nat.lt_of_lt_of_le (Heap.lt_size e) hT))]; exact n) (fun b ob hc e => ⟨ob, k b ob hc e⟩) (fun b xs e => by rw [upd_ne (ne_of_none e hn)]; exact e)
    (fun b ob u e => by rw [upd_ne (ne_of_none e hn)]; exact e) (fun b ps e => (by rw [upd_ne (ne_of_none e hn), e])) (fun m hm => ?_) (fun b u e => ?_) I.bare
  · obtain ⟨ob, es, ep, ho, r⟩ := hm
    exact ⟨ob, es, ep, k _ ob (fun z => (hf _ z).2.1 rfl) ho, r⟩
  · by_cases hb : b = T
    · subst hb
      rw [upd_same] at e
      cases e
      exact new
    · rw [upd_ne hb] at e
      refine (I.hok b u e).stay (fun c v hc q => k c v ?_ q) (fun c q => by rw [upd_ne (ne_of_none q hn)]; exact q) fun c xs q => by rw [upd_ne (ne_of_none q hn)]; exact q
      rcases hc with z | z
      · rw [z]; exact nch b u e
      · exact nch c _ z
theorem turnedL {t' : Nat} {ch : List Addr} (I : Inv X pins σ H s) (k : ∀ b ob, b ∉ ch → s.heap.get? b = some ob → h'.get? b = some ob) (hf : ∀ b ∈ ch, FpOk X pins H b) : Inv X pins σ H { s with heap := h', toks := t' } := by
  have nch : ∀ b u, H b = some u → b ∉ ch := fun b u e z => by rw [(hf b z).1] at e; cases e
  refine I.step (g' := s.gens) (d' := s.drawn) (ch := ch) (fun b hb => ⟨(hf b hb).2.2.2.1, (hf b hb).2.1, (hf b hb).2.2.2.2.1, (hf b hb).2.2.2.2.2⟩) (fun b ob _ _ hc e _ => k b ob hc e) (fun b ob _ _ hc e _ => ⟨ob.slots, k b ob hc e⟩)
    (fun b ob _ e n => n) (fun b ob hc e => ⟨ob, k b ob hc e⟩) (fun b xs e => e) (fun b ob u e => e) (fun b ps e => (by rw [e])) (fun m hm => ?_) (fun b u e => ?_) I.bare
  · obtain ⟨ob, es, ep, ho, r⟩ := hm
    exact ⟨ob, es, ep, k _ ob (fun z => (hf _ z).2.1 rfl) ho, r⟩
  · refine (I.hok b u e).stay (fun c v hc q => k c v ?_ q) (fun _ q => q) fun _ _ q => q
    rcases hc with z | z
    · rw [z]; exact nch b u e
    · exact nch c _ z
end
structure ZRec (a b z TI TO i1 i2 : Addr) (i : Nat) (h : Heap) : Prop where
  z : IsZip h z TI TO .none
  TI : IsPair h TI (.ref i1) (.ref i2)
  TO : ∃ u v, IsPair h TO u v
  i1 : h.IsTupleIter i1 a i
  i2 : h.IsTupleIter i2 b i
end L3
end
section
namespace L3
open PySem PySem.Spec PyProof.Rows L2
section
variable {X : Cx}
theorem call_isinst : CallR X (.builtin "isinstance") (fun xs H Q => ∃ x t n b, xs = [x, .ty n] ∧ TyOf X.K H x t ∧ PySem.W.kitOne X.K t (.type n) = some b ∧ Q (.bl b) H) := by
  intro pins s σ H xs us Q I r h
  obtain ⟨x, t, n, b, rfl, ty, e, q⟩ := h
  obtain ⟨u, v, rfl, ru, rv⟩ := r.two
  obtain rfl : v = Value.type n := rv
  exact isinst_ok I ru ty e fun tk => ⟨.bl b, H, I.tok tk, rfl, q⟩
end
structure TabK (K : PySem.W.Frag) (a : Addr) (D : List (Str × V)) : Prop where
  sys : (a == sysModules) = false
  ex : ∃ o es ep, K.lookup a = some o ∧ o.ExactDict ∧ o.data = .dict es ep ∧ KTD.Rows RelV es.toList D
section
variable {X : Cx} {pins : List (Addr × Obj)} {σ : L2.St} {H : Hp} {s : Shared} {a : Addr} {D : List (Str × V)} {k : Str} {tk : Tok} {A : Around} {E : Value → Shared → Prop}
theorem TabK.typeIs (T : TabK X.K a D) (I : Inv X pins σ H s) : s.TypeIs (.ref a) "dict" := let ⟨o, _, _, e, x, _⟩ := T.ex; ⟨o, I.kIn a o e, x.1⟩
theorem tab_get {Q : Option Value → Shared → Prop} (T : TabK X.K a D) (I : Inv X pins σ H s) (h1 : ∀ v u, KTD.datumAt k D = some v → RelV v u → Q (some u) { s with toks := s.toks + 1 })
    (h2 : KTD.datumAt k D = none → Q none { s with toks := s.toks + 1 }) : wpAny (model X.prog X.w) A (dictGet a (.str k tk)) Q E s := by
  obtain ⟨_, o, es, ep, ek, _, ed, er⟩ := T
  have eo := I.kIn a o ek
  unfold dictGet
  try with_reducible refine wpAny_holding ?_
  have ea : (es.all fun e => isExactStrKey e.key) = true := by
    obtain ⟨l⟩ := es
    simpa using er.exact
  refine wpAny_bind (wpAny_pyHash_str (wpAny_bind (KTD.kt_dictFind_strs (s := { s with toks := s.toks + 1 }) eo ed ea ?_)))
  have fq : Q (findBy (fun k v => v.isStr k) es k) { s with toks := s.toks + 1 } := by
    have ef : findBy (fun k v => v.isStr k) es k = (es.toList.find? fun e => e.key.isStr k).map (·.val) := by
      obtain ⟨l⟩ := es
      simp [findBy]
    rw [ef]
    cases hat : KTD.datumAt k D with
    | some d =>
      obtain ⟨v, hv, hr⟩ := er.find_some hat
      rw [hv]
      exact h1 d v hat hr
    | none =>
      rw [er.find_none hat]
      exact h2 hat
  rw [findBy_of_findIdx?] at fq
  cases hi : es.findIdx? fun e => e.key.isStr k with
  | none => rw [hi] at fq; exact wpAny_pure fq
  | some i => rw [hi] at fq; exact wpAny_bind (wpAny_dictEntries (s := { s with toks := s.toks + 1 }) eo ed (wpAny_pure fq))
theorem tab_item {Q : Value → Shared → Prop} {v : V} (T : TabK X.K a D) (I : Inv X pins σ H s) (hd : KTD.datumAt k D = some v) (h : ∀ u, RelV v u → Q u { s with toks := s.toks + 1 }) : wpAny (model X.prog X.w) A (getItem (.ref a) (.str k tk)) Q E s := by
  have ty := T.typeIs I
  unfold getItem
  try with_reducible refine wpAny_holding ?_
  refine wpAny_bind (wpAny_sequenceKey ty (by decide) ?_)
  refine wpAny_bind (wpAny_callSpecial?_slot (name := Str.ofString "__getitem__") ty slot_dict_getitem (wpAny_call_entry slot_dict_getitem ty entry_dict_getitem ?_ (args_dict_getitem _ _)))
  show wpAny (model X.prog X.w) _ (dictGet a (.str k tk) >>= _) _ _ s
  refine wpAny_bind (tab_get T I (fun v' u e r => ?_) fun hn => ?_)
  · rw [hd] at e
    cases e
    exact wpAny_pure ⟨u, rfl, wpAny_pure (h u r)⟩
  · rw [hd] at hn
    cases hn
end
section
variable {X : Cx}
noncomputable def rIxD (K : PySem.W.Frag) : R2 := fun x y H Q => ∃ a D k v, x = .ref a ∧ y = .str k ∧ TabK K a D ∧ KTD.datumAt k D = some v ∧ Q v H
theorem pe_tab {o i : Expr} {pos : Pos} {td ty : TE} (ho : PE X o td) (hi : PE X i ty) (hs : NoSl i) : PE X (.Subscript o i pos) (tOp (rIxD X.K) td ty) := by
  intro pins s σ H Q I h
  refine subD_of PySem.F.slot_dict_getitem.lookup hs (thn (ho pins s σ H _ I h) fun u s1 ⟨x, H1, I1, rx, q1⟩ => thn (hi pins s1 σ H1 _ I1 q1) fun iv s2 ⟨y, H2, I2, ry, a, D, k, v, ex, ey, T, e, q2⟩ => ?_)
  subst ex ey
  cases rx
  obtain ⟨t, rfl⟩ := ry
  exact ⟨T.typeIs I2, tab_item T I2 e fun u r => ⟨v, H2, I2.tok _, r, q2⟩⟩
end
end L3
end
section
namespace KM
open PySem
inductive D where
  | non
  | bl (b : Bool)
  | int (i : Int)
  | str (x : Str)
  | tup (ds : List D)
deriving Inhabited
mutual
noncomputable def knots : D → Nat
  | .tup ds => 1 + knotsL ds
  | .non => 0
  | .bl _ => 0
  | .int _ => 0
  | .str _ => 0
noncomputable def knotsL : List D → Nat
  | [] => 0
  | d :: r => knots d + knotsL r
end
mutual
noncomputable def depth : D → Nat
  | .tup ds => 1 + depthL ds
  | .non => 0
  | .bl _ => 0
  | .int _ => 0
  | .str _ => 0
noncomputable def depthL : List D → Nat
  | [] => 0
  | d :: r => max (depth d) (depthL r)
end
noncomputable def isTup : D → Bool
  | .tup _ => true
  | _ => false
noncomputable def tk : D → List D
  | .tup ds => ds.filter isTup
  | _ => []
noncomputable def lv : Nat → List D → List D
  | 0, l => l
  | n + 1, l => lv n (l.flatMap tk)
theorem knotsL_filter : ∀ l : List D, knotsL (l.filter isTup) = knotsL l
  | [] => rfl
  | d :: r => by
    have ih := knotsL_filter r
    cases d <;> simp [isTup, List.filter_cons, knotsL, knots, ih]
theorem depthL_filter : ∀ l : List D, depthL (l.filter isTup) = depthL l
  | [] => rfl
  | d :: r => by
    have ih := depthL_filter r
    cases d <;> simp [isTup, List.filter_cons, depthL, depth, ih]
theorem knotsL_app : ∀ l r : List D, knotsL (l ++ r) = knotsL l + knotsL r
  | [], r => by simp [knotsL]
  | d :: l, r => by simp [knotsL, knotsL_app l r]; omega
theorem depthL_app : ∀ l r : List D, depthL (l ++ r) = max (depthL l) (depthL r)
  | [], r => by simp [depthL]
  | d :: l, r => by simp only [List.cons_append, depthL, depthL_app l r]; exact (Nat.max_assoc _ _ _).symm
theorem knots_tk : ∀ d : D, isTup d = true → knots d = 1 + knotsL (tk d)
  | .tup ds, _ => by simp [knots, tk, knotsL_filter]
theorem depth_tk : ∀ d : D, isTup d = true → depth d = 1 + depthL (tk d)
  | .tup ds, _ => by simp [depth, tk, depthL_filter]
theorem tk_tups (d : D) : ∀ x ∈ tk d, isTup x = true := by
  cases d <;> simp [tk]
theorem knots_step : ∀ l : List D, (∀ x ∈ l, isTup x = true) → knotsL l = l.length + knotsL (l.flatMap tk)
  | [], _ => rfl
  | d :: r, h => by
    have h1 := knots_step r fun x hx => h x (List.mem_cons_of_mem _ hx)
    have h2 := knots_tk d (h d List.mem_cons_self)
    simp only [List.flatMap_cons, knotsL_app, knotsL, List.length_cons]
    omega
theorem depth_step : ∀ l : List D, (∀ x ∈ l, isTup x = true) → l ≠ [] → depthL l = 1 + depthL (l.flatMap tk)
  | [], _, h => (h rfl).elim
  | [d], h, _ => by
    have h2 := depth_tk d (h d List.mem_cons_self)
    simp only [List.flatMap_cons, List.flatMap_nil, List.append_nil, depthL]
    omega
  | d :: e :: r, h, _ => by
    have h1 := depth_step (e :: r) (fun x hx => h x (List.mem_cons_of_mem _ hx)) (by simp)
    have h2 := depth_tk d (h d List.mem_cons_self)
    rw [List.flatMap_cons, depthL_app]
    have h3 : depthL (d :: e :: r) = max (depth d) (depthL (e :: r)) := rfl
    omega
theorem tups_step (l : List D) : ∀ x ∈ l.flatMap tk, isTup x = true := by
  intro x hx
  obtain ⟨d, _, h⟩ := List.mem_flatMap.mp hx
  exact tk_tups d x h
theorem lv_nil : ∀ n, lv n [] = []
  | 0 => rfl
  | n + 1 => by rw [lv, List.flatMap_nil]; exact lv_nil n
theorem lv_succ : ∀ n l, lv (n + 1) l = (lv n l).flatMap tk
  | 0, l => rfl
  | n + 1, l => by rw [lv, lv_succ n, ← lv]
theorem lv_tups : ∀ n l, (∀ x ∈ l, isTup x = true) → ∀ x ∈ lv n l, isTup x = true
  | 0, _, h => h
  | n + 1, l, _ => lv_tups n _ (tups_step l)
noncomputable def upto : Nat → List D → Nat
  | 0, _ => 0
  | n + 1, l => upto n l + (lv n l).length
theorem upto_succ' : ∀ n l, upto (n + 1) l = l.length + upto n (l.flatMap tk)
  | 0, l => by simp [upto, lv]
  | n + 1, l => by
    have := upto_succ' n l
    simp only [upto] at this ⊢
    rw [show lv (n + 1) l = lv n (l.flatMap tk) from rfl]
    omega
theorem knots_upto : ∀ n l, (∀ x ∈ l, isTup x = true) → knotsL l = upto n l + knotsL (lv n l)
  | 0, l, _ => by simp [upto, lv]
  | n + 1, l, h => by
    have h1 := knots_step l h
    have h2 := knots_upto n (l.flatMap tk) (tups_step l)
    rw [upto_succ', show lv (n + 1) l = lv n (l.flatMap tk) from rfl]
    omega
theorem lv_empty : ∀ n l, (∀ x ∈ l, isTup x = true) → (lv n l = [] ↔ depthL l ≤ n)
  | 0, l, h => by
    cases l with
    | nil => simp [lv, depthL]
    | cons d r =>
      have := depth_step (d :: r) h (by simp)
      simp only [lv]
      constructor
      · intro q; cases q
      · intro q; omega
  | n + 1, l, h => by
    cases l with
    | nil => simp [lv_nil, depthL]
    | cons d r =>
      have h1 := depth_step (d :: r) h (by simp)
      have h2 := lv_empty n ((d :: r).flatMap tk) (tups_step _)
      rw [show lv (n + 1) (d :: r) = lv n ((d :: r).flatMap tk) from rfl, h2]
      omega
theorem upto_knots (n : Nat) (l : List D) (h : ∀ x ∈ l, isTup x = true) : upto n l ≤ knotsL l := by
  have := knots_upto n l h
  omega
theorem small_iff (l : List D) (h : ∀ x ∈ l, isTup x = true) : (upto 40 l ≤ 600 ∧ lv 40 l = []) ↔ (knotsL l ≤ 600 ∧ depthL l ≤ 40) := by
  rw [lv_empty 40 l h]
  have e := knots_upto 40 l h
  constructor
  · rintro ⟨h1, h2⟩
    rw [(lv_empty 40 l h).mpr h2] at e
    simp only [knotsL] at e
    exact ⟨by omega, h2⟩
  · rintro ⟨h1, h2⟩
    exact ⟨by omega, h2⟩
end KM
end
section
namespace L3
open PySem PySem.Spec PyProof.Rows L2 KM
mutual
/-- v stands for d on the heap H -/
noncomputable def Rep (H : Hp) : D → V → Prop
  | .non, v => v = .non
  | .bl b, v => v = .bl b
  | .int i, v => v = .int i
  | .str x, v => v = .str x ∧ x.length ≤ 1000
  | .tup ds, v => ∃ a vs, v = .ref a ∧ H a = some (.tup vs) ∧ Reps H ds vs
noncomputable def Reps (H : Hp) : List D → List V → Prop
  | [], vs => vs = []
  | d :: ds, vs => ∃ v r, vs = v :: r ∧ Rep H d v ∧ Reps H ds r
end
mutual
theorem Rep.mono {H H' : Hp} (h : Same H H') : ∀ {d : D} {v : V}, Rep H d v → Rep H' d v
  | .non, _, r => r
  | .bl _, _, r => r
  | .int _, _, r => r
  | .str _, _, r => r
  | .tup _, _, ⟨a, vs, e, q, r⟩ => ⟨a, vs, e, h _ _ q, Reps.mono h r⟩
theorem Reps.mono {H H' : Hp} (h : Same H H') : ∀ {ds : List D} {vs : List V}, Reps H ds vs → Reps H' ds vs
  | [], _, r => r
  | _ :: _, _, ⟨v, r, e, q, t⟩ => ⟨v, r, e, Rep.mono h q, Reps.mono h t⟩
end
theorem Reps.length {H : Hp} : ∀ {ds : List D} {vs : List V}, Reps H ds vs → vs.length = ds.length
  | [], _, r => by
    have r : _ = [] := r
    rw [r]; rfl
  | _ :: _, _, ⟨v, r, e, q, t⟩ => by
    rw [e, List.length_cons, List.length_cons, Reps.length t]
theorem Reps.get {H : Hp} : ∀ {ds : List D} {vs : List V} {i : Nat} {d : D}, Reps H ds vs → ds[i]? = some d → ∃ v, vs[i]? = some v ∧ Rep H d v
  | [], _, _, _, _, e => by simp at e
  | d :: _, _, 0, _, ⟨v, r, e, q, t⟩, h => by
    simp at h
    subst h
    exact ⟨v, by rw [e]; rfl, q⟩
  | _ :: ds, _, i + 1, d, ⟨v, r, e, q, t⟩, h => by
    obtain ⟨u, h1, h2⟩ := Reps.get (i := i) t (by simpa using h)
    exact ⟨u, by rw [e]; simpa using h1, h2⟩
theorem Reps.get' {H : Hp} {ds : List D} {vs : List V} {i : Nat} {v : V} (r : Reps H ds vs) (e : vs[i]? = some v) : ∃ d, ds[i]? = some d ∧ Rep H d v := by
  have hi : i < vs.length := (List.getElem?_eq_some_iff.mp e).1
  rw [r.length] at hi
  obtain ⟨u, h1, h2⟩ := r.get (d := ds[i]) (i := i) (by simp [hi])
  rw [e] at h1
  cases h1
  exact ⟨ds[i], by simp [hi], h2⟩
theorem Reps.append {H : Hp} : ∀ {ds es : List D} {vs us : List V}, Reps H ds vs → Reps H es us → Reps H (ds ++ es) (vs ++ us)
  | [], _, _, _, r, q => by
    have r : _ = [] := r
    subst r
    exact q
  | _ :: _, _, _, _, ⟨v, r, e, p, t⟩, q => by
    subst e
    exact ⟨v, r ++ _, rfl, p, Reps.append t q⟩
theorem Reps.one {H : Hp} {d : D} {v : V} (r : Rep H d v) : Reps H [d] [v] := ⟨v, [], rfl, r, rfl⟩
noncomputable def tyD : D → String
  | .non => "NoneType"
  | .bl _ => "bool"
  | .int _ => "int"
  | .str _ => "str"
  | .tup _ => "tuple"
theorem Rep.ty {K : PySem.W.Frag} {H : Hp} : ∀ {d : D} {v : V}, Rep H d v → TyOf K H v (.type (tyD d))
  | .non, _, r => by cases (show _ = V.non from r); exact .non
  | .bl b, _, r => by cases (show _ = V.bl b from r); exact .bl b
  | .int i, _, r => by cases (show _ = V.int i from r); exact .int i
  | .str x, _, r => by cases (show _ = V.str x from r.1); exact .str x
  | .tup _, _, ⟨a, vs, e, q, _⟩ => by cases e; exact .tup q
noncomputable def isStrD : D → Bool
  | .str _ => true
  | _ => false
noncomputable def isBlD : D → Bool
  | .bl _ => true
  | _ => false
noncomputable def isIntD : D → Bool
  | .bl _ => true
  | .int _ => true
  | _ => false
theorem kit_tup (K : PySem.W.Frag) (d : D) : PySem.W.kitOne K (.type (tyD d)) (.type "tuple") = some (isTup d) := by cases d <;> rfl
theorem kit_bl (K : PySem.W.Frag) (d : D) : PySem.W.kitOne K (.type (tyD d)) (.type "bool") = some (isBlD d) := by cases d <;> rfl
theorem kit_int (K : PySem.W.Frag) (d : D) : PySem.W.kitOne K (.type (tyD d)) (.type "int") = some (isIntD d) := by cases d <;> rfl
theorem same_new {H : Hp} {p : Addr} (h : H p = none) (o : HO) : Same H (upd H p o) := fun b u q => by rw [upd_ne (ne_of_none q h)]; exact q
end L3
end
section
namespace L3
open PySem PySem.Spec PyProof.Rows L2
end L3
end
section
namespace L3
open PySem PySem.Spec PyProof.Rows L2
noncomputable def tCut (t u : TS) : TS := fun D σ H => ∃ M : L2.St → Hp → Prop, t { D with nx := M } σ H ∧ ∀ σ' H', M σ' H' → u D σ' H'
theorem pss_cut {X : Cx} {st : Stmt} {rest : List Stmt} {t u : TS} (h1 : PS X st t) (h2 : PSs X rest u) : PSs X (st :: rest) (tCut t u) := by
  intro pins s σ H D I h
  obtain ⟨M, h, hM⟩ := h
  refine wpAny_execs_cons (thn (h1 pins s σ H { D with nx := M } I h) fun f s1 q => ?_)
  cases f with
  | next =>
    obtain ⟨σ', H', I', q⟩ := q
    exact h2 pins s1 σ' H' D I' (hM σ' H' q)
  | ret v => exact q
  | brk => exact q
  | cont => exact q
theorem for_by {J : It} {g : TG} {tb : TS} {D : Ends} {σ : L2.St} {H : Hp} (n : Nat) (Pv : Nat → L2.St → Hp → Prop) (h0 : Pv 0 σ H)
    (hgo : ∀ i σ H, i < n → Pv i σ H → J.go i H ∧ ∀ x H', J.yld i H x H' → g x σ H' fun σ2 H2 => tb { D with nx := Pv (i + 1), ct := Pv (i + 1), bk := D.nx } σ2 H2) (hd : ∀ σ H, Pv n σ H → J.stop n H ∧ D.nx σ H) :
    ∃ W : Nat → Nat → L2.St → Hp → Prop, (∃ m, W 0 m σ H) ∧ ∀ i m σ H, W i m σ H →
      (J.stop i H ∧ D.nx σ H) ∨ (J.go i H ∧ ∃ N : L2.St → Hp → Prop, (∀ σ' H', N σ' H' → ∃ m', m' < m ∧ W (i + 1) m' σ' H') ∧ ∀ x H', J.yld i H x H' → g x σ H' fun σ2 H2 => tb { D with nx := N, ct := N, bk := D.nx } σ2 H2) := by
  refine ⟨fun i m σ H => m = n - i ∧ i ≤ n ∧ Pv i σ H, ⟨n, by simp, Nat.zero_le _, h0⟩, ?_⟩
  rintro i m σ H ⟨rfl, hi, p⟩
  by_cases hlt : i < n
  · obtain ⟨g1, g2⟩ := hgo i σ H hlt p
    exact .inr ⟨g1, Pv (i + 1), fun σ' H' p' => ⟨n - (i + 1), by omega, rfl, hlt, p'⟩, g2⟩
  · obtain rfl : i = n := by omega
    exact .inl (hd σ H p)
noncomputable def SameX (p : Addr) (H H' : Hp) : Prop := ∀ b o, b ≠ p → H b = some o → H' b = some o
theorem SameX.upd {p : Addr} {H : Hp} (o : HO) : SameX p H (upd H p o) := fun b u n h => by rw [upd_ne n]; exact h
mutual
theorem Rep.monoX {p : Addr} {H H' : Hp} (h : SameX p H H') (hp : ∀ vs, H p ≠ some (.tup vs)) : ∀ {d : KM.D} {v : V}, Rep H d v → Rep H' d v
  | .non, _, r => r
  | .bl _, _, r => r
  | .int _, _, r => r
  | .str _, _, r => r
  | .tup _, _, ⟨a, vs, e, q, r⟩ => ⟨a, vs, e, h _ _ (fun z => hp vs (by rw [← z]; exact q)) q, Reps.monoX h hp r⟩
theorem Reps.monoX {p : Addr} {H H' : Hp} (h : SameX p H H') (hp : ∀ vs, H p ≠ some (.tup vs)) : ∀ {ds : List KM.D} {vs : List V}, Reps H ds vs → Reps H' ds vs
  | [], _, r => r
  | _ :: _, _, ⟨v, r, e, q, t⟩ => ⟨v, r, e, Rep.monoX h hp q, Reps.monoX h hp t⟩
end
end L3
end
section
namespace L3
open PySem PySem.Spec PyProof.Rows L2
section
variable {prog : Program} {w : World} {A : Around} {E : Value → Shared → Prop} {s : Shared} {d : Addr} {o : Obj} {es : Array DictEntry} {ep : Nat} {hsh : Int}
end
section
variable {X : Cx} {pins : List (Addr × Obj)} {σ : L2.St} {H : Hp} {s : Shared} {a : Addr} {D : List (Str × V)} {A : Around} {E : Value → Shared → Prop}
end
end L3
end
section
namespace L3
open PySem L2
section
variable {prog : Program} {w : World} {A : Around} {E : Value → Shared → Prop} {s : Shared}
theorem nx_lst {it t : Addr} {i : Nat} {its : Array Value} {x : Value} {Q : Value → Shared → Prop} (gi : s.heap.IsListIter it t i) (gt : s.heap.IsList t its) (gx : its[i]? = some x)
    (hQ : ∀ h', h'.IsListIter it t (i + 1) → Heap.SameBut it s.heap h' → Q x { s with heap := h' }) : wpAny (model prog w) A (Builtin.SmallTypes.nextOf (.ref it)) Q E s := by
  obtain ⟨oi, ei, ci, di⟩ := id gi
  obtain ⟨ot, et, _, nt, dt⟩ := gt
  unfold Builtin.SmallTypes.nextOf
  refine wpAny_bind (wpAny_callSpecial?_slot (name := Str.ofString "__next__") gi.typeIs slot_listiter_next (wpAny_call_entry slot_listiter_next gi.typeIs entry_listiter_next ?_ (args_listiter_next _)))
  show wpAny (model prog w) _ (field (.ref it) 0 >>= _) _ _ s
  refine wpAny_bind (wpAny_field ei di (x := .ref t) rfl ?_)
  show wpAny (model prog w) _ (if (Value.ref t == Value.none) = true then _ else _) _ _ s
  rw [if_neg (show ¬ (Value.ref t == Value.none) = true from Bool.false_ne_true)]
  show wpAny (model prog w) _ (field (.ref it) 1 >>= _) _ _ s
  refine wpAny_bind (wpAny_field ei di (x := .int i 0) rfl ?_)
  show wpAny (model prog w) _ (seqItems? (.ref t) >>= _) _ _ s
  refine wpAny_bind (wpAny_seqItems et dt ?_)
  simp only [Int.toNat_natCast, gx]
  refine wpAny_bind (wpAny_setField ei di (by simp) (wpAny_pure ⟨x, rfl, wpAny_pure (hQ _ ?_ (Heap.SameBut.update ..))⟩))
  refine ⟨_, Heap.get?_update_self _ ei (Obj.isFreed_of_fields (Obj.data_mapFields di _)), (Obj.cls_mapFields ..).trans ci, ?_⟩
  rw [Obj.data_mapFields di]
  simp [rawInt]
theorem nx_lst_end {it t : Addr} {i : Nat} {its : Array Value} {Q : Value → Shared → Prop} (hb : HB s.heap A) (na : ∀ a, A.handled = some (.ref a) → a ≠ it) (gi : s.heap.IsListIter it t i) (gt : s.heap.IsList t its) (gx : its[i]? = none)
    (hE : ∀ h' e, Heap.ExtBut it s.heap h' → (∃ o, h'.get? e = some o ∧ o.cls = .type "StopIteration") → E (.ref e) { s with heap := h' }) : wpAny (model prog w) A (Builtin.SmallTypes.nextOf (.ref it)) Q E s := by
  obtain ⟨oi, ei, ci, di⟩ := id gi
  obtain ⟨ot, et, _, nt, dt⟩ := gt
  unfold Builtin.SmallTypes.nextOf
  refine wpAny_bind (wpAny_callSpecial?_slot (name := Str.ofString "__next__") gi.typeIs slot_listiter_next (wpAny_call_entry slot_listiter_next gi.typeIs entry_listiter_next ?_ (args_listiter_next _)))
  show wpAny (model prog w) _ (field (.ref it) 0 >>= _) _ _ s
  refine wpAny_bind (wpAny_field ei di (x := .ref t) rfl ?_)
  show wpAny (model prog w) _ (if (Value.ref t == Value.none) = true then _ else _) _ _ s
  rw [if_neg (show ¬ (Value.ref t == Value.none) = true from Bool.false_ne_true)]
  show wpAny (model prog w) _ (field (.ref it) 1 >>= _) _ _ s
  refine wpAny_bind (wpAny_field ei di (x := .int i 0) rfl ?_)
  show wpAny (model prog w) _ (seqItems? (.ref t) >>= _) _ _ s
  refine wpAny_bind (wpAny_seqItems et dt ?_)
  simp only [Int.toNat_natCast, gx]
  refine wpAny_bind (wpAny_rule (wpAny_bind (wpAny_setField ei di (by simp) ?_)))
  exact stop_made (A := A.in1) (hb.upd na) fun h' e k he => hE h' e (ext_upd k) he
end
theorem draws_lst {prog : Program} {w : World} {A : Around} (it t : Addr) (ne : t ≠ it) (na : ∀ a, A.handled = some (.ref a) → a ≠ it) (its : Array Value) :
    Draws prog w A it (it :: t :: hAdr A) its.size (fun i v => its[i]? = some v) (fun i h => h.IsListIter it t i ∧ h.IsList t its ∧ HB h A) where
  live := fun _ _ st => let ⟨o, ho, _⟩ := st.1; ⟨o, ho⟩
  frame := fun i h h' st hk => by
    obtain ⟨⟨o1, e1, r1⟩, ⟨o2, e2, r2⟩, hb⟩ := st
    exact ⟨⟨o1, hk it (by simp) o1 e1, r1⟩, ⟨o2, hk t (by simp) o2 e2, r2⟩, hb.frame fun b hb => hk b (by simp [hb])⟩
  item := fun i s Q E hi st hQ => by
    refine nx_lst st.1 st.2.1 (x := its[i]) (by simp [hi]) fun h' k1 k2 => ?_
    exact hQ _ h' s.toks (by simp [hi]) ⟨k1, st.2.1.extBut k2.extBut ne, st.2.2.mono fun a o ea eo => k2.extBut a o (na a ea) eo⟩ k2
  done := fun s Q E st hE => nx_lst_end st.2.2 na st.1 st.2.1 (by simp) hE
noncomputable abbrev zl1 (h : Heap) (a : Addr) : Heap := h.push { cls := .type "list_iterator", data := .fields #[.ref a, .int 0 0] }
noncomputable abbrev zl2 (h : Heap) (a b : Addr) : Heap := (zl1 h a).push { cls := .type "list_iterator", data := .fields #[.ref b, .int 0 0] }
noncomputable abbrev zl3 (h : Heap) (a b : Addr) : Heap := (zl2 h a b).push { cls := .type "tuple", data := .seq #[.ref h.objs.size, .ref (zl1 h a).objs.size] }
noncomputable abbrev zl4 (h : Heap) (a b : Addr) : Heap := (zl3 h a b).push { cls := .type "tuple", data := .seq #[.none, .none] }
noncomputable abbrev zl5 (h : Heap) (a b : Addr) : Heap := (zl4 h a b).push { cls := .type "zip", data := .fields #[.none, .bool false, .bool false, .ref (zl2 h a b).objs.size, .ref (zl3 h a b).objs.size] }
theorem meets_zipL (a b : Addr) (xs ys : Array Value) :
    Meets (Builtin.«zip.__new__» ⟨[.type "zip", .ref a, .ref b], []⟩) (fun _ R s => s.heap.IsList a xs ∧ s.heap.IsList b ys ∧ R (.ok (.ret (.ref (zl4 s.heap a b).objs.size))) { s with heap := zl5 s.heap a b }) :=
  .of_wp fun prog w A R s h => by
    obtain ⟨hp, g, d, tk, os⟩ := s
    obtain ⟨k1, k2, h⟩ := h
    have hsub := sub_zip
    have t1 : Heap.IsList (Shared.heap ⟨hp, g, d, tk, os⟩) a xs := k1
    have t2 : Heap.IsList (Shared.heap ⟨hp.push { cls := .type "list_iterator", data := .fields #[.ref a, .int 0 0] }, g, d, tk, os⟩) b ys := Heap.IsList.push k2 _
    wp_walk using wpAny_pyIter_list t1, wpAny_pyIter_list t2
    exact ⟨_, rfl, h⟩
section
variable {prog : Program} {w : World} {A : Around} {E : Value → Shared → Prop} {s : Shared}
theorem call_zipL {a b : Addr} {xs ys : Array Value} {Q : Value → Shared → Prop} (k1 : s.heap.IsList a xs) (k2 : s.heap.IsList b ys)
    (h : ∀ h', IsZip h' (s.heap.objs.size + 4) (s.heap.objs.size + 2) (s.heap.objs.size + 3) .none → IsPair h' (s.heap.objs.size + 2) (.ref s.heap.objs.size) (.ref (s.heap.objs.size + 1)) → IsPair h' (s.heap.objs.size + 3) .none .none →
      h'.IsListIter s.heap.objs.size a 0 → h'.IsListIter (s.heap.objs.size + 1) b 0 → (∀ c o, s.heap.get? c = some o → h'.get? c = some o) → Q (.ref (s.heap.objs.size + 4)) { s with heap := h' }) :
    wpAny (model prog w) A (call (.type "zip") [.ref a, .ref b]) Q E s := by
  refine callType_new F.called_zip (by decide) (F.typeCall_zip_2 _ _) (F.newCall_zip_2 _ _) (fun obj => F.args_object_init_3 obj _ _) F.entry_zip_new (meets_zipL a b xs ys) ⟨k1, k2, ?_⟩
  have e1 : (zl1 s.heap a).objs.size = s.heap.objs.size + 1 := Heap.size_push ..
  have e2 : (zl2 s.heap a b).objs.size = s.heap.objs.size + 2 := by rw [Heap.size_push, e1]
  have e3 : (zl3 s.heap a b).objs.size = s.heap.objs.size + 3 := by rw [Heap.size_push, e2]
  have e4 : (zl4 s.heap a b).objs.size = s.heap.objs.size + 4 := by rw [Heap.size_push, e3]
  have p5 : (zl5 s.heap a b).get? (zl4 s.heap a b).objs.size = some _ := Heap.get?_push_size _ rfl
  have p4 : (zl5 s.heap a b).get? (zl3 s.heap a b).objs.size = some _ := Heap.get?_push_of_some _ (Heap.get?_push_size _ rfl)
  have p3 : (zl5 s.heap a b).get? (zl2 s.heap a b).objs.size = some _ := Heap.get?_push_of_some _ (Heap.get?_push_of_some _ (Heap.get?_push_size _ rfl))
  have p2 : (zl5 s.heap a b).get? (zl1 s.heap a).objs.size = some _ := Heap.get?_push_of_some _ (Heap.get?_push_of_some _ (Heap.get?_push_of_some _ (Heap.get?_push_size _ rfl)))
  have p1 : (zl5 s.heap a b).get? s.heap.objs.size = some _ := Heap.get?_push_of_some _ (Heap.get?_push_of_some _ (Heap.get?_push_of_some _ (Heap.get?_push_of_some _ (Heap.get?_push_size _ rfl))))
  show _ ∧ _
  rw [e2, e3, e4] at p5
  rw [e1, e2] at p3
  rw [e3] at p4
  rw [e1] at p2
  rw [e4]
  refine ⟨⟨_, p5, rfl⟩, h _ p5 p3 p4 ⟨_, p1, rfl, rfl⟩ ⟨_, p2, rfl, rfl⟩ fun c o q => ?_⟩
  exact Heap.get?_push_of_some _ (Heap.get?_push_of_some _ (Heap.get?_push_of_some _ (Heap.get?_push_of_some _ (Heap.get?_push_of_some _ q))))
end
end L3
end
section
namespace L3
open PySem PySem.Spec PyProof.Rows L2
theorem sq_neL {X : Cx} {pins : List (Addr × Obj)} {σ : L2.St} {H : Hp} {s : Shared} {a d : Addr} {xs : List V} (I : Inv X pins σ H s) (q : SqL X.K H a xs) (f : FpOk X pins H d) : a ≠ d := fun z => by
  subst z
  rcases q with (q | ⟨o, q⟩) | ⟨o, _, _, q, _⟩
  · rw [f.1] at q; cases q
  · rw [f.1] at q; cases q
  · have e := I.ok.mod.kin a o q
    rcases f.2.2.2.1 with z | z
    · exact I.ok.noex a o e z
    · exact absurd (Nat.lt_of_lt_of_le (Heap.lt_size e) I.ok.bsz) (Nat.not_lt.mpr z)
noncomputable def Itzl (K : PySem.W.Frag) (a b : Addr) : It :=
  ⟨fun i H => ∃ xs ys x y, SqL K H a xs ∧ SqL K H b ys ∧ xs[i]? = some x ∧ ys[i]? = some y,
   fun i H v H' => ∃ p x y, v = .ref p ∧ H p = none ∧ H' = upd H p (.tup [x, y]) ∧ ∀ xs ys, SqL K H a xs → SqL K H b ys → xs[i]? = some x ∧ ys[i]? = some y,
   fun i H => ∃ xs ys, SqL K H a xs ∧ SqL K H b ys ∧ xs.length = i⟩
structure ZRecL (a b z TI TO i1 i2 : Addr) (i : Nat) (h : Heap) : Prop where
  z : IsZip h z TI TO .none
  TI : IsPair h TI (.ref i1) (.ref i2)
  TO : ∃ u v, IsPair h TO u v
  i1 : h.IsListIter i1 a i
  i2 : h.IsListIter i2 b i
theorem turn_zipL {P : Program} {w : World} {K : PySem.W.Frag} {es : List Expr} {k : Nat} {pos : Pos} (a b n : Nat) :
    Turn P w K (.Tuple es k pos) (Itzl K a b) [n + 4, n + 2, n + 3, n, n + 1] (n + 4) (ZRecL a b (n + 4) (n + 2) (n + 3) n (n + 1)) where
  mem := by simp
  obj := fun i h st c hc => by
    simp only [List.mem_cons, List.not_mem_nil, or_false] at hc
    obtain ⟨o1, e1, _, d1⟩ := st.i1
    obtain ⟨o2, e2, _, d2⟩ := st.i2
    obtain ⟨u, v, eo⟩ := st.TO
    rcases hc with rfl | rfl | rfl | rfl | rfl
    · exact ⟨_, st.z, fun v q => by cases q⟩
    · exact ⟨_, st.TI, fun v q => by cases q⟩
    · exact ⟨_, eo, fun v q => by cases q⟩
    · exact ⟨o1, e1, fun v q => by rw [d1] at q; cases q⟩
    · exact ⟨o2, e2, fun v q => by rw [d2] at q; cases q⟩
  keep := fun i h h' st kp => by
    obtain ⟨o1, e1, r1⟩ := st.i1
    obtain ⟨o2, e2, r2⟩ := st.i2
    obtain ⟨u, v, eo⟩ := st.TO
    exact ⟨kp _ (by simp) _ st.z, kp _ (by simp) _ st.TI, ⟨u, v, kp _ (by simp) _ eo⟩, ⟨o1, kp _ (by simp) _ e1, r1⟩, ⟨o2, kp _ (by simp) _ e2, r2⟩⟩
  item := by
    intro X hP hw hK hc i pins s σ H E I hf st hg
    subst hP hw hK
    obtain ⟨xs, ys, x, y, q1, q2, hx, hy⟩ := hg
    obtain ⟨its1, rv1, p1, _⟩ := I.list q1
    obtain ⟨its2, rv2, p2, _⟩ := I.list q2
    obtain ⟨u1, hu1, ru1⟩ := rv1.get hx
    obtain ⟨u2, hu2, ru2⟩ := rv2.get hy
    obtain ⟨u, v, eo⟩ := st.TO
    have ltz := Heap.lt_size st.z
    have l1 : i < its1.toArray.size := by rw [List.size_toArray]; exact (List.getElem?_eq_some_iff.mp hu1).1
    have l2 : i < its2.toArray.size := by rw [List.size_toArray]; exact (List.getElem?_eq_some_iff.mp hu2).1
    have na : ∀ d ∈ [n + 4, n + 2, n + 3, n, n + 1], a ≠ d := fun d hd => sq_neL I q1 (hf d hd)
    have nb : ∀ d ∈ [n + 4, n + 2, n + 3, n, n + 1], b ≠ d := fun d hd => sq_neL I q2 (hf d hd)
    have ap : ZApart (n + 4) (n + 2) (n + 3) n (n + 1) (n :: a :: hAdr X.A.in1) ((n + 1) :: b :: hAdr X.A.in1) := by
      have nh : ∀ d ∈ [n + 4, n + 2, n + 3, n, n + 1], d ∉ hAdr X.A.in1 := fun d hd z => I.hna hc (hf d hd).2.2.2.1 (hf d hd).2.2.2.2.2 d (mem_hAdr z) rfl
      have a1 := na (n + 4) (by simp)
      have a2 := na (n + 3) (by simp)
      have a3 := na (n + 1) (by simp)
      have b1 := nb (n + 4) (by simp)
      have b2 := nb (n + 3) (by simp)
      have b3 := nb n (by simp)
      constructor <;> (try simp only [List.mem_cons, not_or]) <;> first | omega | exact ⟨by omega, by omega, nh _ (by simp)⟩
    have ha1 : ∀ d ∈ [n + 4, n + 2, n + 3, n, n + 1], ∀ a, X.A.in1.handled = some (.ref a) → a ≠ d := fun d hd => I.hna hc (hf d hd).2.2.2.1 (hf d hd).2.2.2.2.2
    refine zip_nextD (draws_lst n a (na n (by simp)) (ha1 n (by simp)) its1.toArray) (draws_lst (n + 1) b (nb (n + 1) (by simp)) (ha1 (n + 1) (by simp)) its2.toArray) ap st.z st.TI eo ⟨st.i1, p1.isList, I.hb hc⟩ ⟨st.i2, p2.isList, I.hb hc⟩ l1 l2 fun x' y' h1 tk e1 e2 z1 o1 s1 s2 pr kp => ?_
    have e1 : its1.toArray[i]? = some x' := e1
    have e2 : its2.toArray[i]? = some y' := e2
    have ex : u1 = x' := by
      rw [List.getElem?_toArray, hu1] at e1
      exact Option.some.inj e1
    have ey : u2 = y' := by
      rw [List.getElem?_toArray, hu2] at e2
      exact Option.some.inj e2
    subst ex ey
    refine ⟨_, rfl, wpAny_letOwnedTupleGo_zip (s := { s with heap := h1, toks := tk }) z1 fun h2 z2 sb => ?_⟩
    have lt : ∀ d ∈ [n + 4, n + 2, n + 3, n, n + 1], d < s.heap.objs.size := fun d hd => by
      have : d ≤ n + 4 := by simp at hd; omega
      exact Nat.lt_of_le_of_lt this ltz
    have up : ∀ c o, c ≠ n + 4 → h1.get? c = some o → h2.get? c = some o := fun c o hc' e => (sb.2 c hc').trans e
    have prT : h2.get? s.heap.objs.size = some { cls := .type "tuple", data := .seq #[u1, u2] } := up _ _ (Nat.ne_of_gt ltz) pr
    refine ⟨.ref s.heap.objs.size, _, turnedNew (s := s) (h' := h2) (t' := tk) (ch := [n + 4, n + 3, n, n + 1]) (T := s.heap.objs.size) (o := .tup [x, y]) I (fun c o hc' e => ?_) (fun d hd => hf d (by simp only [List.mem_cons, List.not_mem_nil, or_false] at hd ⊢; rcases hd with z | z | z | z <;> simp [z])) (Nat.le_refl _) ?_, rfl, ⟨_, x, y, rfl, I.hok.fresh (Nat.le_refl _), rfl, fun xs' ys' a1 a2 => ?_⟩, ?_, fun d hd => ?_⟩
    · simp only [List.mem_cons, List.not_mem_nil, or_false, not_or] at hc'
      exact up c o hc'.1 (kp c o hc'.1 hc'.2.1 hc'.2.2.1 hc'.2.2.2 e)
    · exact ⟨(by show 2 ≤ sizeLine; decide), [u1, u2], .cons ru1 (.cons ru2 .nil), ⟨_, prT, rfl, _, rfl⟩⟩
    · rw [I.list_inj a1 q1, I.list_inj a2 q2]
      exact ⟨hx, hy⟩
    · obtain ⟨⟨oa, ea, ra⟩, _⟩ := s1
      obtain ⟨⟨ob, eb, rb⟩, _⟩ := s2
      refine ⟨z2, up _ _ ap.TIz (kp _ _ ap.TIz ap.TITO ap.TI1 ap.TI2 st.TI), ⟨_, _, up _ _ (by omega) o1⟩, ⟨oa, up _ _ (by omega) ea, ra⟩, ⟨ob, up _ _ (by omega) eb, rb⟩⟩
    · rw [upd_ne (Nat.ne_of_lt (lt d hd))]
      exact (hf d hd).1
  done := by
    intro X hP hw hK hc i pins s σ H E I hf st hg
    subst hP hw hK
    obtain ⟨xs, ys, q1, q2, hl⟩ := hg
    obtain ⟨its1, rv1, p1, _⟩ := I.list q1
    obtain ⟨u, v, eo⟩ := st.TO
    have na : ∀ d ∈ [n + 4, n + 2, n + 3, n, n + 1], a ≠ d := fun d hd => sq_neL I q1 (hf d hd)
    have nb : ∀ d ∈ [n + 4, n + 2, n + 3, n, n + 1], b ≠ d := fun d hd => sq_neL I q2 (hf d hd)
    have ap : ZApart (n + 4) (n + 2) (n + 3) n (n + 1) (n :: a :: hAdr X.A.in1) ((n + 1) :: b :: hAdr X.A.in1) := by
      have nh : ∀ d ∈ [n + 4, n + 2, n + 3, n, n + 1], d ∉ hAdr X.A.in1 := fun d hd z => I.hna hc (hf d hd).2.2.2.1 (hf d hd).2.2.2.2.2 d (mem_hAdr z) rfl
      have a1 := na (n + 4) (by simp)
      have a2 := na (n + 3) (by simp)
      have a3 := na (n + 1) (by simp)
      have b1 := nb (n + 4) (by simp)
      have b2 := nb (n + 3) (by simp)
      have b3 := nb n (by simp)
      constructor <;> (try simp only [List.mem_cons, not_or]) <;> first | omega | exact ⟨by omega, by omega, nh _ (by simp)⟩
    have hi : its1.toArray.size = i := by rw [List.size_toArray, ← rv1.length]; exact hl
    subst hi
    have ha1 : ∀ d ∈ [n + 4, n + 2, n + 3, n, n + 1], ∀ a, X.A.in1.handled = some (.ref a) → a ≠ d := fun d hd => I.hna hc (hf d hd).2.2.2.1 (hf d hd).2.2.2.2.2
    refine zip_stopD (draws_lst n a (na n (by simp)) (ha1 n (by simp)) its1.toArray) ap st.z st.TI eo ⟨st.i1, p1.isList, I.hb hc⟩ fun h1 kp => ⟨rfl, ?_⟩
    refine turnedL (t' := s.toks) (ch := [n + 4, n + 3, n, n + 1]) I (fun c o hc' e => ?_) fun d hd => hf d (by simp only [List.mem_cons, List.not_mem_nil, or_false] at hd ⊢; rcases hd with z | z | z | z <;> simp [z])
    simp only [List.mem_cons, List.not_mem_nil, or_false, not_or] at hc'
    exact kp c o hc'.1 hc'.2.1 hc'.2.2.1 hc'.2.2.2 e
  self := fun A i s Q E st h => wpAny_pyIter_zip st.z h
noncomputable def iZipL (K : PySem.W.Frag) (ta : TA) : TI := fun σ H R => ta σ H fun vs H1 => ∃ a b xs ys, vs = [.ref a, .ref b] ∧ SqL K H1 a xs ∧ SqL K H1 b ys ∧ R (Itzl K a b) H1
theorem pi_zipL {X : Cx} {es : List Expr} {k : Nat} {tpos : Pos} {a b : Expr} {ta : TA} {p pos : Pos} (hg : Gl X "zip") (hm : X.mg "zip" = none) (ha : PA X [a, b] ta) (hs : starEach [a, b] X.env = [(false, eval a X.env), (false, eval b X.env)] := by rfl)
    (hs2 : starEach [b] X.env = [(false, eval b X.env)] := by rfl) : PI X (.Tuple es k tpos) (.Call (.Name "zip" p) [a, b] [] pos) (iZipL X.K ta) := by
  intro pins s σ H R I h
  refine Call_ (ld_blt I hg hm boot_zip (PyProof.Rows.callWith_type1 (thn (ha pos pins s σ H _ I h) fun us s1 ⟨vs, H1, I1, r1, q1⟩ => ?_) (by rw [hs, hs2]) (by rw [hs2]; rfl)))
  obtain ⟨a1, b1, xs, ys, e, k1, k2, q⟩ := q1
  subst e
  obtain ⟨u1, u2, rfl, ru1, ru2⟩ := Vals.two r1
  cases ru1
  cases ru2
  obtain ⟨its1, rv1, p1, _⟩ := I1.list k1
  obtain ⟨its2, rv2, p2, _⟩ := I1.list k2
  refine call_zipL p1.isList p2.isList fun h1 z1 t1 o1 s1' s2' kp => ?_
  refine wpAny_pyIter_zip (s := { s1 with heap := h1 }) z1 ?_
  have I2 : Inv X pins σ H1 { s1 with heap := h1 } := I1.kept (t' := s1.toks) kp
  refine ⟨_, _, _, _, H1, rfl, I2, turn_zipL a1 b1 s1.heap.objs.size, ⟨z1, t1, ⟨_, _, o1⟩, s1', s2'⟩, fun d hd => ?_, q⟩
  have : s1.heap.objs.size ≤ d := by
    simp only [List.mem_cons, List.not_mem_nil, or_false] at hd
    rcases hd with z | z | z | z | z <;> rw [z] <;> first | exact Nat.le_add_right _ _ | exact Nat.le_refl _
  exact I1.fpOk this (I1.hok.fresh this)
end L3
end
section
namespace L3
open PySem PySem.Spec PyProof.Rows L2
theorem bt_tuple : bootBuiltins "tuple" = some (.type "tuple") := by decide +kernel
theorem bt_int : bootBuiltins "int" = some (.type "int") := by decide +kernel
theorem bt_bool : bootBuiltins "bool" = some (.type "bool") := by decide +kernel
theorem bt_list : bootBuiltins "list" = some (.type "list") := by decide +kernel
theorem bt_len : bootBuiltins "len" = some (.builtin "len") := by decide +kernel
theorem bt_isinstance : bootBuiltins "isinstance" = some (.builtin "isinstance") := by decide +kernel
theorem bt_max : bootBuiltins "max" = some (.builtin "max") := by decide +kernel
noncomputable def Df (K : PySem.W.Frag) (mg : Str → Option Value) (x : Str) (st : Stmt) (ps : List Str) : Prop := ∃ f fd, Fun K x x st f fd ∧ mg x = some (.ref f) ∧ Binds K fd ps []
noncomputable def Cal (P : Program) (w : World) (K : PySem.W.Frag) (mg : Str → Option Value) (CX : CXT) (x : Str) (k : Nat) (ps : List Str) (sp : Sp) : Prop :=
  ∃ f fd, (∀ base, FnOk P w K mg base CX k f fd ps sp) ∧ mg x = some (.ref f) ∧ PySem.W.keepIn K (.ref f) = true ∧ Binds K fd ps []
section
variable {P : Program} {w : World} {K : PySem.W.Frag} {mg : Str → Option Value}
theorem Df.ok {x : Str} {st : Stmt} {N ps : List Str} {k : Nat} {sp : Sp} (D : Df K mg x st ps) (S : FnScope N ps (defScope st)) (len : ∀ vs H Q E, sp vs H Q E → vs.length = ps.length)
    (hbody : ∀ (base : Heap) (f : Addr) (cdv : Value) (A : Around) (outer : List Env) (s : Shared) (H : Hp) (vs : List V) (Q : VK) (E : XK), Room k (A.deeper (envOfC x (defScope st) s.heap.objs.size f cdv)) → sp vs H Q E →
      ∃ t, PSs (cxOf CX0 P w K mg base N x (defScope st) f cdv A outer s H E).nox (defBody st) t ∧ t { nx := fun _ H' => Q .non H', rt := Q } (start N vs) H) : Cal P w K mg CX0 x (k + 1) ps sp := by
  obtain ⟨f, fd, F, m, b⟩ := D
  exact ⟨f, fd, fun base => F.ok S len (hbody base f), m, F.kp, b⟩
theorem Cal.never {x : Str} {st : Stmt} {ps : List Str} {sp : Sp} {k : Nat} {CX : CXT} (D : Df K mg x st ps) (no : ∀ vs H Q E, ¬ sp vs H Q E) : Cal P w K mg CX x k ps sp := by
  obtain ⟨f, fd, F, m, b⟩ := D
  exact ⟨f, fd, fun base => ⟨fun vs H Q E h => absurd h (no vs H Q E), fun A outer s H args us vs Q E _ _ _ _ h => absurd h (no vs H Q E)⟩, m, F.kp, b⟩
end
noncomputable def hidX (h : Heap) (H : Hp) (fs : List Addr) : Heap := PySem.W.hideAll (hidT h H) fs
theorem hidX_get {h : Heap} {H : Hp} {fs : List Addr} {b : Addr} {o : Obj} (e : h.get? b = some o) (n : H b = none) (hf : b ∉ fs) : (hidX h H fs).get? b = some o := PySem.W.hideAll_get _ (hidT_get e n) hf
theorem of_hidX {h : Heap} {H : Hp} {fs : List Addr} {b : Addr} {o : Obj} (e : (hidX h H fs).get? b = some o) : h.get? b = some o ∧ H b = none := of_hidT (PySem.W.of_hideAll fs e)
theorem hidX_size (h : Heap) (H : Hp) (fs : List Addr) : (hidX h H fs).objs.size = h.objs.size := (PySem.W.hideAll_size _ _).trans (hidT_size h H)
theorem funFrames_of {h B B' : Heap} : ∀ {l : List Env}, h.FunFrames B l → (∀ L ∈ frs l, B'.get? L = none) → h.FunFrames B' l
  | [], _, _ => trivial
  | env :: l, ⟨hk, ⟨L, o, hf, _, ho, hd⟩, hr⟩, hn => ⟨hk, ⟨L, o, hf, hn L (by unfold frs; rw [List.filterMap_cons, hf]; exact List.mem_cons_self), ho, hd⟩, funFrames_of hr fun b hb => hn b (by unfold frs at hb ⊢; rw [List.filterMap_cons, hf]; exact List.mem_cons_of_mem _ hb)⟩
theorem env1 {X : Cx} {pins : List (Addr × Obj)} {σ : L2.St} {H : Hp} {s : Shared} (I : Inv X pins σ H s) (hc : X.calm = true) : Env0 X.prog X.w X.K X.mg (hidX s.heap H (frs X.stack)) X.A X.stack s H := by
  have nf : ∀ b o, X.base.get? b = some o → b ∉ frs X.stack := fun b o e z => by
    rcases List.mem_cons.mp (I.stkSub b z) with z | z
    · have := Heap.lt_size e
      rw [z] at this
      exact absurd this (Nat.not_lt.mpr (Nat.le_trans I.ok.bsz I.ok.above))
    · exact I.ok.nofr e z
  have up : ∀ b o, X.base.get? b = some o → (hidX s.heap H (frs X.stack)).get? b = some o := fun b o e => hidX_get (I.bs b o e).1 (I.bs b o e).2 (nf b o e)
  obtain ⟨mb, b1, b2⟩ := I.ok.mod.blt
  refine ⟨I.ok.frames, ⟨I.ok.mod.kin.keeps up, I.ok.mod.glob.keeps up, ⟨mb, b1.keeps up, b2⟩, I.ok.mod.nolimit.keeps up, I.ok.mod.bm.keeps up⟩, fun b o e => of_hidX e, Nat.le_of_eq (hidX_size _ _ _), funFrames_of I.stack fun L hL => PySem.W.hideAll_none _ hL, I.stkFree, I.hok, I.bare, ?_⟩
  rcases I.ok.hd hc with h | ⟨a, oe, vs, e1, e2, e3⟩
  · exact .inl h
  · refine .inr ⟨a, oe, vs, e1, ?_, e3⟩
    rcases e2 with e2 | e2
    · exact up a oe e2
    · obtain ⟨q1, q2, q3, q4, _⟩ := I.pin (a, oe) (List.mem_append_left _ e2)
      refine hidX_get q1 q2 fun z => ?_
      rcases List.mem_cons.mp (I.stkSub a z) with z | z
      · exact q3 z
      · exact q4 z
theorem run_cal {X : Cx} {CX : CXT} {k : Nat} {f : Addr} {fd : FuncData} {ps : List Str} {sp : Sp} {E : XK} {pins : List (Addr × Obj)} {σ : L2.St} {H : Hp} {s : Shared} {Q : VK} {us : List Value} {vs : List V} {XE : Value → Shared → Prop}
    (F : ∀ base, FnOk X.prog X.w X.K X.mg base CX k f fd ps sp) (hr : Room k X.A) (hb : Binds X.K fd ps []) (I : Inv X pins σ H s) (hc : X.calm = true) (hx : ∀ e s', CX X.A.handled X.stack H s E e s' → XE e s') (r : Vals vs us) (h : sp vs H Q E) :
    wpAny (model X.prog X.w) X.A (call (.ref f) us) (EP X pins σ Q) XE s := by
  have hl : us.length = ps.length := by rw [← r.length]; exact (F (hidX s.heap H (frs X.stack))).len _ _ _ _ h
  have bt := hb s us I.kIn (by rw [List.append_nil]; exact hl)
  rw [List.append_nil] at bt
  refine wpAny_call (codeAny_mono ((F _).run X.A X.stack s H ⟨us, []⟩ us vs Q E hr (env1 I hc) bt r h) fun r s' hq => ?_)
  cases r with
  | error e => exact hx e s' hq
  | ok fl =>
    cases fl with
    | ret u => exact I.after hq
    | next => exact False.elim hq
    | brk => exact False.elim hq
    | cont => exact False.elim hq
theorem pe_fn {X : Cx} {CX : CXT} {x : Str} {k : Nat} {ps : List Str} {sp : Sp} {E : XK} {e : Expr} {es : List Expr} {t : TA} {p pos : Pos} (F : Cal X.prog X.w X.K X.mg CX x k ps sp) (hr : Room k X.A) (hg : Gl X x) (hx : Passes CX X E)
    (ha : PA X (e :: es) t) (hdb : (x == ("__debug__" : Str)) = false := by decide) (he : starEach (e :: es) X.env = (false, eval e X.env) :: starEach es X.env := by rfl) (hpl : (backTo pos (starEach es X.env)).any (·.1) = false := by rfl) (hc : X.calm = true := by rfl) :
    PE X (.Call (.Name x p) (e :: es) [] pos) (tCall sp [] E t) := by
  obtain ⟨f, fd, F, m, kp, b⟩ := F
  intro pins s σ H Q I h
  refine wpAny_Call_Name_kw (ld_glob I hg m ?_ hdb)
  refine PySem.W.callWith_K (h₀ := X.base) I.ok.mod.kin kp (thn (ha pos pins s σ H _ I h) fun us s1 ⟨vs, H1, I1, r, q⟩ => ⟨I1.kIn, ?_⟩) he hpl
  have q : sp (vs ++ []) H1 Q E := q
  rw [List.append_nil] at q
  exact run_cal F hr b I1 hc (fun e s' hc => hx pins σ H1 s1 e s' I1 hc) r q
theorem pe_gint {X : Cx} {x : Str} {i : Int} {pos : Pos} (hm : ∃ t, X.mg x = some (.int i t)) (hg : Gl X x) (hd : (x == ("__debug__" : Str)) = false := by decide) : PE X (.Name x pos) (tC (.int i)) := by
  obtain ⟨t, hm⟩ := hm
  exact pe_glob hg hm ⟨t, rfl⟩ hd
theorem pe_gref {X : Cx} {x : Str} {a : Addr} {pos : Pos} (hm : X.mg x = some (.ref a)) (hg : Gl X x) (hd : (x == ("__debug__" : Str)) = false := by decide) : PE X (.Name x pos) (tC (.ref a)) := pe_glob hg hm rfl hd
theorem pe_ty {X : Cx} {x : Str} {n : String} {pos : Pos} (hm : X.mg x = none) (hv : bootBuiltins x = some (.type n)) (hg : Gl X x) (hn : x ≠ "__name__" := by decide) (hd : (x == ("__debug__" : Str)) = false := by decide) : PE X (.Name x pos) (tC (.ty n)) := pe_bltn hg hm hv rfl hn hd
noncomputable def blkChk (outer : List (Str × NameKind)) (N N' : List Str) (own : Nat) (fr : List Nat) (scope : Scope) : Bool :=
  scope.names.all (fun y => y.2 != .cell && (y.2 != .local || scope.names.lookup y.1 == some .local) && (y.2 != .free || outer.lookup y.1 == some .cell || outer.lookup y.1 == some .free)) &&
  decide (N'.length = own + fr.length) && (List.range fr.length).all (fun j => match fr[j]? with
    | some i => match N'[own + j]? with
      | some x => N[i]? == some x && scope.names.lookup x == some .free
      | none => false
    | none => true)
theorem blk_of {X : Cx} {N N' : List Str} {own : Nat} {fr : List Nat} {sc scope : Scope} (hs : X.env.scope = sc) (hN : X.N = N) (hk : scope.kind = .function) (h : blkChk sc.names N N' own fr scope = true) : BlkScope X N' own fr scope := by
  unfold blkChk at h
  simp only [Bool.and_eq_true, List.all_eq_true, decide_eq_true_eq] at h
  obtain ⟨⟨h1, h2⟩, h3⟩ := h
  subst hN
  refine ⟨hk, fun y hy => ?_, fun y hy e => ?_, fun y hy e => ?_, h2, fun j i e => ?_⟩
  · simpa using (h1 y hy).1.1
  · have := (h1 y hy).1.2
    simpa [e] using this
  · have := (h1 y hy).2
    unfold Env.kindOf
    rw [hs]
    simpa [e] using this
  · have hj : j < fr.length := (List.getElem?_eq_some_iff.mp e).1
    have := h3 j (by simpa using hj)
    rw [e] at this
    cases hx : N'[own + j]? with
    | none => simp [hx] at this
    | some x =>
      simp only [hx, Bool.and_eq_true, beq_iff_eq] at this
      exact ⟨x, rfl, this.1, this.2⟩
end L3
end
section
namespace L3
open PySem PySem.Spec PyProof.Rows L2
theorem args_maxD (a v : Value) : argsOk "max" ⟨[a], [(Str.ofString "default", v)]⟩ := by unfold argsOk; kernel_rfl
section
variable {prog : Program} {w : World} {A : Around} {E : Value → Shared → Prop} {s : Shared}
theorem call_treeKw {id : String} {b : Builtin} {args : List Value} {kw : List (Str × Value)} {Q : Value → Shared → Prop} (hk : builtinKind id = none) (hp : plainId id = true)
    (hb : entryFor table id = some b) (ha : argsOk id ⟨args, kw⟩)
    (hc : wpAny (model prog w) A.in1 (b ⟨args, kw⟩) (fun fin s' => match fin with
      | .done f => (match (Except.ok f : Result) with | .ok (.ret v) => Q v s' | .ok _ => False | .error e => E e s')
      | .again c' => c'.quiet = true ∧ codeAny (model prog w) A c' (fun r s' => match r with | .ok (.ret v) => Q v s' | .ok _ => False | .error e => E e s') s') E s) :
    wpAny (model prog w) A (call (.builtin id) args kw) Q E s := by
  refine wpAny_call (codeAny_call_builtin hp hb ?_)
  simp only [checkBuiltinCall, hk]
  cases hsig : Manifest.signature? id with
  | none => exact wpAny_pure hc
  | some sig =>
    simp only [argsOk, hsig] at ha
    have h2 : Bind.checkArgs id sig ⟨args, kw⟩ = pure () := ha
    show wpAny _ A.in1 (Bind.checkArgs id sig ⟨args, kw⟩) _ _ s
    rw [h2]; exact wpAny_pure hc
theorem gt_ints {i j : Int} {t u : Tok} {Q : Value → Shared → Prop} (h : Q (.bool (decide (i > j))) s) : wpAny (model prog w) A (richCompare .Gt (.int i t) (.int j u)) Q E s :=
  richCompare_gives (op := .Gt) (typeIs_int s _ t) (typeIs_int s _ u) F.slot_int_gt F.entry_int_gt (F.args_int_gt_2 _ _) (gives_int_gt _ _ t u) (fun x => nomatch x) h
end
noncomputable def mxI (m x : Int) : Int := if x > m then x else m
noncomputable def maxD (ns : List Int) (d : Int) : Int := match ns with
  | [] => d
  | a :: r => r.foldl mxI a
noncomputable def bestIs (ns : List Int) (j : Nat) (l : Array Value) : Prop := (j = 0 ∧ l = #[]) ∨ (0 < j ∧ ∃ t, l = #[.int (maxD (ns.take j) 0) t, .int (maxD (ns.take j) 0) t])
theorem maxD_snoc {l : List Int} (x d : Int) (h : l ≠ []) : maxD (l ++ [x]) d = mxI (maxD l d) x := by
  cases l with
  | nil => exact absurd rfl h
  | cons a r => simp [maxD, List.foldl_append]
section
variable {prog : Program} {w : World} {A : Around} {R : Result → Shared → Prop} {I : Addr} {fp wr : List Addr} {P : Nat → Value → Prop} {St : Nat → Heap → Prop}
theorem max_loopD {ns : List Int} {d : Value} (W : Walks prog w A.in1 I fp wr ns.length P St) (hP : ∀ (i : Nat) v, P i v → ∃ x t, ns[i]? = some x ∧ v = .int x t) (S : Addr) (hSf : S ∉ fp) :
    ∀ (k j : Nat) (s : Shared) (l : Array Value) (c : Nat), ns.length - j = k → j ≤ ns.length → St j s.heap → bestIs ns j l →
    s.heap.get? S = some { cls := .type "list", dict := none, data := .seq l c, slots := #[] } →
    (∀ v h' tk, (ns = [] ∧ v = d ∨ ns ≠ [] ∧ ∃ t, v = .int (maxD ns 0) t) → (∀ b o, b ∉ wr → b ≠ S → s.heap.get? b = some o → h'.get? b = some o) → R (.ok (.ret v)) { s with heap := h', toks := tk }) →
    codeAny (model prog w) A (.builtin "max.loop" ⟨[.ref I, .none, .ref S], [(Str.ofString "default", d)]⟩) R s := by
  have hSw : S ∉ wr := fun h => hSf (W.sub _ h)
  have hname : (toString "max" ++ toString ".loop" : String) = "max.loop" := by decide
  intro k
  induction k with
  | zero =>
    intro j s l c hk hj hst hb hS hR
    have hin : j = ns.length := by omega
    refine codeAny_builtin F.entry_max_loop ?_
    rw [Around.under_plainId F.plain_max_loop _]
    show wpAny _ A.in1 (seqItems? (.ref S) >>= _) _ _ s
    refine wpAny_bind (wpAny_seqItems hS rfl ?_)
    rcases hb with ⟨h0, rfl⟩ | ⟨h0, t, rfl⟩
    · show wpAny _ A.in1 (tryCatch (pyNext (.ref I)) _ >>= _) _ _ s
      refine wpAny_bind (wpAny_tryCatch (W.done s _ _ (hin ▸ hst) fun h' tk hk' => ?_))
      show wpAny _ A.in1 (rule _ >>= _) _ _ _
      refine wpAny_bind (wpAny_rule (wpAny_pure ?_))
      have e : ns = [] := List.eq_nil_of_length_eq_zero (by omega)
      exact hR d _ tk (.inl ⟨e, rfl⟩) fun b o hbw hbS q => hk' b o hbw q
    · show wpAny _ A.in1 (tryCatch (pyNext (.ref I)) _ >>= _) _ _ s
      refine wpAny_bind (wpAny_tryCatch (W.done s _ _ (hin ▸ hst) fun h' tk hk' => ?_))
      have hS' := hk' S _ hSw hS
      show wpAny _ A.in1 (updateSeq S (fun _ => #[]) >>= _) _ _ _
      refine wpAny_bind ?_
      refine wpAny_updateSeq hS' rfl (wpAny_bind (wpAny_letGo (wpAny_pure ?_)))
      have e : ns ≠ [] := fun z => by rw [z] at hin; simp at hin; omega
      refine hR _ _ tk (.inr ⟨e, t, by rw [hin, List.take_length]⟩) fun b o hbw hbS q => (Heap.get?_update_other _ _ (Ne.symm hbS)).trans (hk' b o hbw q)
  | succ k ih =>
    intro j s l c hk hj hst hb hS hR
    have hlt : j < ns.length := by omega
    refine codeAny_builtin F.entry_max_loop ?_
    rw [Around.under_plainId F.plain_max_loop _]
    show wpAny _ A.in1 (seqItems? (.ref S) >>= _) _ _ s
    refine wpAny_bind (wpAny_seqItems hS rfl ?_)
    have tk1 : ∀ x, ns[j]? = some x → ns.take (j + 1) = ns.take j ++ [x] := fun x hx => by rw [List.take_add_one, hx]; rfl
    rcases hb with ⟨h0, rfl⟩ | ⟨h0, t, rfl⟩
    · show wpAny _ A.in1 (tryCatch (pyNext (.ref I)) _ >>= _) _ _ s
      refine wpAny_bind (wpAny_tryCatch (W.item j s _ _ hlt hst fun v h' tk hPv hst' hk' => ?_))
      obtain ⟨x, u, hx, rfl⟩ := hP j v hPv
      have hS' := hk' S _ hSw hS
      show wpAny _ A.in1 (updateSeq S (fun _ => #[.int x u, .int x u]) >>= _) _ _ _
      refine wpAny_bind ?_
      refine wpAny_updateSeq hS' rfl ?_
      rw [hname]
      refine wpAny_pure ⟨plainId_quiet F.plain_max_loop _, ih (j + 1) _ _ _ (by omega) hlt (W.frame _ _ _ hst' fun b hbf o e => ?_) (.inr ⟨by omega, u, ?_⟩) (Heap.get?_update_self _ hS' rfl) fun v' h'' tk'' hv' hk'' => ?_⟩
      · exact (Heap.get?_update_other _ _ (fun h : S = b => hSf (by rw [h]; exact hbf))).trans e
      · rw [tk1 x hx, h0]
        rfl
      · exact hR v' h'' tk'' hv' fun b o hbw hbS e => hk'' b o hbw hbS ((Heap.get?_update_other _ _ (Ne.symm hbS)).trans (hk' b o hbw e))
    · show wpAny _ A.in1 (tryCatch (pyNext (.ref I)) _ >>= _) _ _ s
      refine wpAny_bind (wpAny_tryCatch (W.item j s _ _ hlt hst fun v h' tk hPv hst' hk' => ?_))
      obtain ⟨x, u, hx, rfl⟩ := hP j v hPv
      have hS' := hk' S _ hSw hS
      have ne : ns.take j ≠ [] := fun z => by
        have : (ns.take j).length = 0 := by rw [z]; rfl
        rw [List.length_take] at this
        omega
      have em : maxD (ns.take (j + 1)) 0 = mxI (maxD (ns.take j) 0) x := by rw [tk1 x hx, maxD_snoc x 0 ne]
      show wpAny _ A.in1 (tryCatch (holding [.int x u, .int x u] (richCompare .Gt (.int x u) (.int (maxD (ns.take j) 0) t) >>= _)) _ >>= _) _ _ _
      refine wpAny_bind (wpAny_tryCatch (wpAny_holding (wpAny_bind (gt_ints ?_))))
      refine wpAny_bind (wpAny_holding (wpAny_truthy_bool ?_))
      refine wpAny_bind (wpAny_letGo (wpAny_pure ?_))
      by_cases hb : x > maxD (ns.take j) 0
      · rw [decide_eq_true hb]
        simp only [if_true]
        refine wpAny_bind ?_
        refine wpAny_updateSeq hS' rfl (wpAny_bind (wpAny_letGo ?_))
        rw [hname]
        refine wpAny_pure ⟨plainId_quiet F.plain_max_loop _, ih (j + 1) _ _ _ (by omega) hlt (W.frame _ _ _ hst' fun b hbf o e => ?_) (.inr ⟨by omega, u, ?_⟩) (Heap.get?_update_self _ hS' rfl) fun v' h'' tk'' hv' hk'' => ?_⟩
        · exact (Heap.get?_update_other _ _ (fun h : S = b => hSf (by rw [h]; exact hbf))).trans e
        · rw [em, mxI, if_pos hb]
        · exact hR v' h'' tk'' hv' fun b o hbw hbS e => hk'' b o hbw hbS ((Heap.get?_update_other _ _ (Ne.symm hbS)).trans (hk' b o hbw e))
      · rw [decide_eq_false hb]
        simp only [Bool.false_eq_true, if_false]
        refine wpAny_bind (wpAny_letGo ?_)
        rw [hname]
        refine wpAny_pure ⟨plainId_quiet F.plain_max_loop _, ih (j + 1) _ _ c (by omega) hlt hst' (.inr ⟨by omega, t, ?_⟩) hS' fun v' h'' tk'' hv' hk'' => ?_⟩
        · rw [em, mxI, if_neg hb]
        · exact hR v' h'' tk'' hv' fun b o hbw hbS e => hk'' b o hbw hbS (hk' b o hbw e)
end
theorem ints_get : ∀ {ns : List Int} {us : List Value}, Vals (ns.map V.int) us → ∀ (i : Nat) (u : Value), us[i]? = some u → ∃ x t, ns[i]? = some x ∧ u = .int x t
  | [], _, .nil, i, u, e => by simp at e
  | n :: ns, _, .cons r t, 0, u, e => by
    obtain ⟨tk, r⟩ := r
    simp at e
    exact ⟨n, tk, rfl, by rw [← e, r]⟩
  | n :: ns, _, .cons r t, i + 1, u, e => by simpa using ints_get t i u (by simpa using e)
section
variable {X : Cx} {pins : List (Addr × Obj)} {σ : L2.St} {H : Hp} {s : Shared}
theorem run_maxD {p : Addr} {ns : List Int} {i : Int} {v : Value} {Q : VK} (hc : X.calm = true) (I : Inv X pins σ H s) (hq : SqL X.K H p (ns.map V.int)) (rv : RelV (.int i) v) (q : Q (.int (maxD ns i)) H) :
    wpAny (model X.prog X.w) X.A (call (.builtin "max") [.ref p] [(Str.ofString "default", v)]) (EP X pins σ Q) X.xe s := by
  obtain ⟨its, r, pl, hz⟩ := I.list hq
  have hl := pl.isList
  have lt : p < s.heap.objs.size := by
    obtain ⟨o, e, _⟩ := hl
    exact Heap.lt_size e
  have na : ∀ a, X.A.in1.handled = some (.ref a) → a ≠ s.heap.objs.size := fun a ea => by
    rcases I.hb hc with z | ⟨b, oe, vs, e1, e2, _⟩
    · rw [show X.A.in1.handled = X.A.handled from rfl, z] at ea; cases ea
    · rw [show X.A.in1.handled = X.A.handled from rfl, e1] at ea; cases ea; exact Nat.ne_of_lt (Heap.lt_size e2)
  have hname : (toString "max" ++ toString ".loop" : String) = "max.loop" := by decide
  refine call_treeKw F.kind_max F.plain_max F.entry_max (args_maxD _ _) ?_
  show wpAny _ X.A.in1 (Builtin.Builtins.bindParams "max" ["key", "default"] 0 ⟨[], [(Str.ofString "default", v)]⟩ >>= _) _ _ s
  refine wpAny_bind (wpAny_of_eq (show Builtin.Builtins.bindParams "max" ["key", "default"] 0 ⟨[], [(Str.ofString "default", v)]⟩ = pure [none, some v] from rfl) ?_)
  refine wpAny_bind (wpAny_pure ?_)
  refine wpAny_bind (wpAny_pyIter_list hl ?_)
  refine wpAny_bind (wpAny_newObj_type ?_)
  have len : its.toArray.size = ns.length := by rw [List.size_toArray, ← r.length, List.length_map]
  have WL := walks_list (prog := X.prog) (w := X.w) (A := X.A.in1) s.heap.objs.size p (Nat.ne_of_lt lt) its.toArray na
  rw [len] at WL
  rw [hname]
  have hS0 : ((s.heap.push { cls := .type "list_iterator", data := .fields #[.ref p, .int 0 0] }).objs.size) ∉ s.heap.objs.size :: p :: hAdr X.A.in1 := by
    rw [Heap.size_push]
    intro z
    rcases List.mem_cons.mp z with z | z
    · exact Nat.succ_ne_self _ z
    · rcases List.mem_cons.mp z with z | z
      · rw [← z] at lt
        exact Nat.not_succ_lt_self lt
      · have ez := mem_hAdr z
        rcases I.hb hc with q | ⟨b, oe, vs, e1, e2, _⟩
        · rw [show X.A.in1.handled = X.A.handled from rfl, q] at ez; cases ez
        · rw [show X.A.in1.handled = X.A.handled from rfl, e1] at ez
          cases ez
          exact Nat.not_succ_lt_self (Heap.lt_size e2)
  refine wpAny_pure ⟨plainId_quiet F.plain_max_loop _, max_loopD (d := v) WL (fun j u e => ints_get r j u (by simpa using e)) _ hS0 _ 0 _ #[] _ rfl (Nat.zero_le _) ?_ (.inl ⟨rfl, rfl⟩) (Heap.get?_push_size _ rfl) fun u h' tk hv hk => ?_⟩
  · exact ⟨⟨_, Heap.get?_push_of_some _ (Heap.get?_push_size _ rfl), rfl, rfl⟩, (hl.push _).push _, (I.hb hc).mono fun a o _ eo => Heap.get?_push_of_some _ (Heap.get?_push_of_some _ eo)⟩
  · refine ⟨.int (maxD ns i), H, I.kept (h' := h') (t' := tk) fun b o eb => hk b o (fun hm => ?_) (fun hm => ?_) (Heap.get?_push_of_some _ (Heap.get?_push_of_some _ eb)), ?_, q⟩
    · rw [List.mem_singleton.mp hm] at eb
      exact Nat.lt_irrefl _ (Heap.lt_size eb)
    · have := Heap.lt_size eb
      rw [hm, Heap.size_push] at this
      exact Nat.not_succ_lt_self this
    · rcases hv with ⟨rfl, rfl⟩ | ⟨hne, t, rfl⟩
      · exact rv
      · refine ⟨t, ?_⟩
        cases ns with
        | nil => exact absurd rfl hne
        | cons a r => rfl
end
noncomputable def tMaxD (K : PySem.W.Frag) (t tk : TA) : TE := fun σ H Q => t σ H fun vs H1 => tk σ H1 fun zs H2 => ∃ p ns i, vs = [.ref p] ∧ zs = [.int i] ∧ SqL K H2 p (ns.map V.int) ∧ Q (.int (maxD ns i)) H2
theorem pe_maxD {X : Cx} {e d : Expr} {t tk : TA} {p kp pos : Pos} (hm : X.mg "max" = none) (ha : PA X [e] t) (hk : PK X [⟨some (Str.ofString "default"), d, kp⟩] tk) (hc : X.calm = true := by rfl) (hg : Gl X "max" := by rfl)
    (he : starEach [e] X.env = [(false, eval e X.env)] := by rfl) : PE X (.Call (.Name "max" p) [e] [⟨some (Str.ofString "default"), d, kp⟩] pos) (tMaxD X.K t tk) := by
  intro pins s σ H Q I h
  refine wpAny_Call_Name_kw (ld_blt I hg hm bt_max ?_)
  refine callWith_kw (thn (ha pos pins s σ H _ I h) fun us s1 ⟨vs, H1, I1, r1, q1⟩ => thn (hk pos pins s1 σ H1 _ I1 q1) fun ws s2 ⟨zs, H2, I2, r2, q2⟩ => ?_) (by rw [he]; rfl) (by rw [he]; rfl)
  obtain ⟨p, ns, i, rfl, rfl, hq, q⟩ := q2
  obtain ⟨u, rfl, ru⟩ := r1.one
  cases ru
  obtain ⟨v, rfl, rv⟩ := r2.one
  exact run_maxD hc I2 hq rv q
end L3
end
section
namespace L3
open PySem PySem.Spec PyProof.Rows L2
theorem same_upd {H H2 : Hp} {p : Addr} {o : HO} (h : Same H H2) (hp : H p = none) : Same H (upd H2 p o) := fun b u q => by rw [upd_ne (ne_of_none q hp)]; exact h b u q
theorem comp_opt {J : It} {p : Addr} {H1 : Hp} {g : TG} {tt : TT} {te : TE} {b : L2.St} {C : Hp → Prop} (n : Nat) (f : Nat → Option V) (hp : H1 p = none) (hn : n ≤ sizeLine)
    (hgo : ∀ i H2, i < n → Same H1 H2 → J.go i H2 ∧ ∀ x H3, J.yld i H2 x H3 → ∀ (R : V → Hp → Prop) (R0 : Hp → Prop), (∀ v H6, f i = some v → Same H2 H6 → R v H6) → (∀ H5, f i = none → Same H2 H5 → R0 H5) →
      g x b H3 fun σ4 H4 => tt σ4 H4 fun ok H5 => if ok = true then te σ4 H5 R else R0 H5)
    (hd : ∀ H2, Same H1 H2 → H2 p = some (.lst ((List.range n).filterMap f)) → J.stop n H2 ∧ C H2) :
    ∃ W : Nat → Nat → List V → Hp → Prop, (∃ m, W 0 m [] (upd H1 p (.lst []))) ∧ ∀ i m acc H2, W i m acc H2 → (J.stop i H2 ∧ C H2) ∨ (J.go i H2 ∧ ∀ x H3, J.yld i H2 x H3 → g x b H3 fun σ4 H4 => tt σ4 H4 fun ok H5 =>
      if ok = true then te σ4 H5 fun v H6 => H6 p = some (.lst acc) ∧ acc.length < sizeLine ∧ ∃ m', m' < m ∧ W (i + 1) m' (acc ++ [v]) (upd H6 p (.lst (acc ++ [v]))) else ∃ m', m' < m ∧ W (i + 1) m' acc H5) := by
  refine comp_by (Q := fun _ H => C H) n (fun i acc H2 => acc = (List.range i).filterMap f ∧ H2 p = some (.lst acc) ∧ Same H1 H2) ⟨rfl, upd_same, same_new hp _⟩ ?_ ?_
  · rintro i acc H2 hi ⟨rfl, h2, s2⟩
    obtain ⟨g1, g2⟩ := hgo i H2 hi s2
    have lng : ((List.range i).filterMap f).length < sizeLine := by
      have := List.length_filterMap_le f (List.range i)
      rw [List.length_range] at this
      omega
    refine ⟨g1, fun x H3 y => g2 x H3 y _ _ (fun v H6 e s6 => ⟨s6 _ _ h2, lng, nx hi ⟨?_, upd_same, same_upd (s2.trans s6) hp⟩⟩) fun H5 e s5 => nx hi ⟨?_, s5 _ _ h2, s2.trans s5⟩⟩
    · rw [List.range_succ, List.filterMap_append]; simp [e]
    · rw [List.range_succ, List.filterMap_append]; simp [e]
  · rintro acc H2 ⟨rfl, h2, s2⟩
    exact hd H2 s2 h2
theorem comp_vals {J : It} {p : Addr} {H1 : Hp} {g : TG} {te : TE} {b : L2.St} {C : Hp → Prop} (n : Nat) (f : Nat → V) (hp : H1 p = none) (hn : n ≤ sizeLine)
    (hgo : ∀ i H2, i < n → Same H1 H2 → J.go i H2 ∧ ∀ x H3, J.yld i H2 x H3 → ∀ (R : V → Hp → Prop), (∀ H6, Same H2 H6 → R (f i) H6) → g x b H3 fun σ4 H4 => te σ4 H4 R)
    (hd : ∀ H2, Same H1 H2 → H2 p = some (.lst ((List.range n).map f)) → J.stop n H2 ∧ C H2) :
    ∃ W : Nat → Nat → List V → Hp → Prop, (∃ m, W 0 m [] (upd H1 p (.lst []))) ∧ ∀ i m acc H2, W i m acc H2 → (J.stop i H2 ∧ C H2) ∨ (J.go i H2 ∧ ∀ x H3, J.yld i H2 x H3 → g x b H3 fun σ4 H4 => tYes σ4 H4 fun ok H5 =>
      if ok = true then te σ4 H5 fun v H6 => H6 p = some (.lst acc) ∧ acc.length < sizeLine ∧ ∃ m', m' < m ∧ W (i + 1) m' (acc ++ [v]) (upd H6 p (.lst (acc ++ [v]))) else ∃ m', m' < m ∧ W (i + 1) m' acc H5) := by
  refine comp_by (Q := fun _ H => C H) n (fun i acc H2 => acc = (List.range i).map f ∧ H2 p = some (.lst acc) ∧ Same H1 H2) ⟨rfl, upd_same, same_new hp _⟩ ?_ ?_
  · rintro i acc H2 hi ⟨rfl, h2, s2⟩
    obtain ⟨g1, g2⟩ := hgo i H2 hi s2
    refine ⟨g1, fun x H3 y => ?_⟩
    simp only [tYes, if_true]
    refine g2 x H3 y _ fun H6 s6 => ⟨s6 _ _ h2, by rw [List.length_map, List.length_range]; omega, nx hi ⟨?_, upd_same, same_upd (s2.trans s6) hp⟩⟩
    rw [List.range_succ, List.map_append]; rfl
  · rintro acc H2 ⟨rfl, h2, s2⟩
    exact hd H2 s2 h2
end L3
end
section
namespace HT
open PySem PyProof.Rows
section
open PySem.SeqAt
open PySem.AutoSeq1 (wpAny_loadPart')
open PySem.MeetsSeq PySem.MeetsSeq2 PySem.MeetsSeq3
variable {prog : Program} {w : World} {A : Around} {E : Value → Shared → Prop} {s : Shared}
theorem getItem_tuple_whole {t sl : Addr} {items : Array Value} {vl vu : Value} {lo hi : Option Int} {Q : Value → Shared → Prop} (ht : IsTup s.heap t items) (hs : s.heap.IsSliceOf sl vl vu .none) (pl : IsPart vl lo) (pu : IsPart vu hi)
    (h1 : sIx items.size 0 lo = 0) (h2 : sIx items.size items.size hi = items.size) (h : Q (.ref t) s) : wpAny (model prog w) A (getItem (.ref t) (.ref sl)) Q E s := by
  obtain ⟨os, hos, hcs, hds⟩ := id hs
  have hTs : s.TypeIs (.ref sl) "slice" := ⟨os, hos, hcs⟩
  unfold getItem
  try with_reducible refine wpAny_holding ?_
  first | refine wpAny_bind (wpAny_pure ?_) | skip
  refine wpAny_bind (wpAny_sequenceKey ht.typeIs (by decide) ?_)
  refine wpAny_bind (wpAny_callSpecial?_slot (name := Str.ofString "__getitem__") ht.typeIs PyProof.Rows.slot_tuple_getitem
    (wpAny_call_entry PyProof.Rows.slot_tuple_getitem ht.typeIs entry_tuple_getitem ?_ (args_tuple_getitem _ _)))
  show wpAny _ _ (Builtin.Tuple.tupleItemsOf (.ref t) >>= _) _ _ s
  refine wpAny_bind (tupleItemsOf_ ht ?_)
  refine wpAny_bind (wpAny_typeOf hTs ?_)
  rw [if_pos (by decide)]
  refine wpAny_bind (sliceApplied_gen hs pl pu ?_)
  have hyes : (((sIx items.size 0 lo : Nat) : Int) == 0 && (1 : Int) == 1 && (sIx items.size items.size hi - sIx items.size 0 lo) == items.size) = true := by
    rw [h1, h2]; simp
  show wpAny _ _ (if (((sIx items.size 0 lo : Nat) : Int) == 0 && (1 : Int) == 1 && (sIx items.size items.size hi - sIx items.size 0 lo) == items.size) = true then _ else _) _ _ s
  rw [if_pos hyes]
  show wpAny _ _ (Builtin.Tuple.tupleIsExact (.ref t) >>= _) _ _ s
  refine wpAny_bind ?_
  unfold Builtin.Tuple.tupleIsExact
  refine wpAny_bind (wpAny_typeOf ht.typeIs (wpAny_pure ?_))
  rw [if_pos (by decide)]
  exact wpAny_bind (wpAny_rule (wpAny_pure ⟨_, rfl, wpAny_pure h⟩))
end
end HT
namespace L3
open PySem PySem.Spec PyProof.Rows L2
noncomputable def rSlW (K : PySem.W.Frag) : V → Option Int → Option Int → Hp → VK → Prop := fun x lo hi H Q => ∃ a xs, x = .ref a ∧ SqT K H a xs ∧ (∀ p, H p = none → Q (.ref p) (upd H p (.tup (cutV xs lo hi)))) ∧ (cutV xs lo hi = xs → Q (.ref a) H)
theorem sl_tupW {X : Cx} : SlR X (rSlW X.K) := by
  intro pins s σ H x v vl vu lo hi sl Q I rx hs pl pu h
  obtain ⟨a, xs, rfl, hx, q1, q2⟩ := h
  by_cases hw : HT.sIx xs.length 0 lo = 0 ∧ HT.sIx xs.length xs.length hi = xs.length
  · cases rx
    obtain ⟨its, r, ht, hz⟩ := I.tuple hx
    have hlen : its.toArray.size = xs.length := by rw [List.size_toArray]; exact r.length.symm
    refine ⟨"tuple", _, PyProof.Rows.slot_tuple_getitem.lookup, ht.typeIs, ?_⟩
    refine HT.getItem_tuple_whole ht hs pl pu (by rw [hlen]; exact hw.1) (by rw [hlen]; exact hw.2) ⟨.ref a, H, I, rfl, q2 ?_⟩
    unfold cutV
    rw [hw.1, hw.2, List.drop_zero, Nat.sub_zero, List.take_length]
  · exact sl_tup pins s σ H _ v vl vu lo hi sl Q I rx hs pl pu ⟨a, xs, rfl, hx, hw, q1⟩
theorem cutV_from (xs : List V) (k : Nat) : cutV xs (some (k : Int)) none = xs.drop k := by
  unfold cutV
  rw [HT.sIx_none, HT.sIx_nat]
  by_cases h : k ≤ xs.length
  · rw [Nat.min_eq_left h]
    exact List.take_of_length_le (by rw [List.length_drop]; omega)
  · rw [Nat.min_eq_right (by omega), List.drop_eq_nil_of_le (Nat.le_refl _), List.drop_eq_nil_of_le (show xs.length ≤ k by omega)]
    simp
end L3
end
section
namespace L3
open PySem PySem.Spec PyProof.Rows L2
section
variable {X : Cx} {K : PySem.W.Frag}
theorem call_isinstK (hK : X.K = K := by rfl) : CallR X (.builtin "isinstance") (fun xs H Q => ∃ x t n b, xs = [x, .ty n] ∧ TyOf K H x t ∧ PySem.W.kitOne K t (.type n) = some b ∧ Q (.bl b) H) := by subst hK; exact call_isinst
end
end L3
end
section
namespace L3
open PySem PySem.Spec PyProof.Rows L2
theorem atI_mod {α : Type} {xs : List α} {m : Int} (c : Int) (h : (xs.length : Int) = m) (h0 : 0 < m) : ∃ v, atI xs (c % m) = some v ∧ v ∈ xs := by
  have i0 : 0 ≤ c % m := Int.emod_nonneg _ (by omega)
  have i1 : c % m < m := Int.emod_lt_of_pos _ h0
  have hi : (c % m).toNat < xs.length := by omega
  have e : c % m = (((c % m).toNat : Nat) : Int) := by omega
  have h : atI xs (((c % m).toNat : Nat) : Int) = some xs[(c % m).toNat] := atI_nat (List.getElem?_eq_getElem hi)
  exact ⟨xs[(c % m).toNat], (congrArg (atI xs) e).trans h, List.getElem_mem hi⟩
noncomputable def maxN : List Nat → Nat
  | [] => 0
  | a :: r => max a (maxN r)
end L3
end
section
namespace L3
open PySem PySem.Spec L2
variable {K : PySem.W.Frag}
noncomputable def SqK (K : PySem.W.Frag) (a : Addr) (xs : List V) : Prop := ∃ (o : Obj) (its : Array Value) (n : Nat), K.lookup a = some o ∧ o.cls = .type "tuple" ∧ o.data = .seq its n ∧ its.size ≤ sizeLine ∧ Vals xs its.toList
structure KD (K : PySem.W.Frag) (a : Addr) (rows : List (Str × List V)) (as : List Addr) : Prop where
  len : as.length = rows.length
  tab : TabK K a ((rows.zip as).map fun p => (p.1.1, V.ref p.2))
  sq : ∀ p ∈ rows.zip as, SqK K p.2 p.1.2
theorem datum_zip {α β : Type} {x : Str} (f : (Str × α) × β → V) : ∀ (rows : List (Str × α)) (as : List β), as.length = rows.length →
    (∃ r a, (r, a) ∈ rows.zip as ∧ r.1 = x ∧ rows.lookup x = some r.2 ∧ PyProof.Rows.KTD.datumAt x ((rows.zip as).map fun p => (p.1.1, f p)) = some (f (r, a))) ∨
    (rows.lookup x = none ∧ PyProof.Rows.KTD.datumAt x ((rows.zip as).map fun p => (p.1.1, f p)) = none)
  | [], _, _ => .inr ⟨rfl, rfl⟩
  | (k, v) :: rows, [], h => by simp at h
  | (k, v) :: rows, a :: as, h => by
    have ih := datum_zip (x := x) f rows as (by simpa using h)
    by_cases e : x = k
    · subst e
      exact .inl ⟨(x, v), a, List.mem_cons_self, rfl, by simp [List.lookup], by simp [PyProof.Rows.KTD.datumAt]⟩
    · have e1 : (x == k) = false := by simpa using e
      have e2 : ¬ k = x := fun z => e z.symm
      rcases ih with ⟨r, b, h1, h2, h3, h4⟩ | ⟨h1, h2⟩
      · exact .inl ⟨r, b, List.mem_cons_of_mem _ h1, h2, by rw [List.lookup_cons, e1]; exact h3, by simp only [List.zip_cons_cons, List.map_cons, PyProof.Rows.KTD.datumAt, e, decide_false, Bool.false_eq_true, if_false]; exact h4⟩
      · exact .inr ⟨by rw [List.lookup_cons, e1]; exact h1, by simp only [List.zip_cons_cons, List.map_cons, PyProof.Rows.KTD.datumAt, e, decide_false, Bool.false_eq_true, if_false]; exact h2⟩
theorem KD.some {a : Addr} {rows : List (Str × List V)} {as : List Addr} (T : KD K a rows as) {x : Str} {ds : List V} (h : rows.lookup x = Option.some ds) : ∃ b, PyProof.Rows.KTD.datumAt x ((rows.zip as).map fun p => (p.1.1, V.ref p.2)) = Option.some (.ref b) ∧ ∀ H, SqT K H b ds := by
  rcases datum_zip (x := x) (fun p => V.ref p.2) rows as T.len with ⟨r, b, h1, h2, h3, h4⟩ | ⟨h1, _⟩
  · rw [h] at h3
    cases h3
    exact ⟨b, h4, fun H => .inr (T.sq _ h1)⟩
  · rw [h] at h1; cases h1
noncomputable def valsChk : List V → List Value → Bool
  | [], [] => true
  | .str x :: vs, .str y _ :: us => decide (x = y) && valsChk vs us
  | .int i :: vs, .int j _ :: us => decide (i = j) && valsChk vs us
  | _, _ => false
theorem valsChk_ok : ∀ {vs : List V} {us : List Value}, valsChk vs us = true → Vals vs us
  | [], [], _ => .nil
  | .str x :: vs, .str y t :: us, h => by
    simp only [valsChk, Bool.and_eq_true, decide_eq_true_eq] at h
    obtain ⟨rfl, h⟩ := h
    exact .cons ⟨t, rfl⟩ (valsChk_ok h)
  | .int x :: vs, .int y t :: us, h => by
    simp only [valsChk, Bool.and_eq_true, decide_eq_true_eq] at h
    obtain ⟨rfl, h⟩ := h
    exact .cons ⟨t, rfl⟩ (valsChk_ok h)
  | [], _ :: _, h => by simp [valsChk] at h
  | _ :: _, [], h => by simp [valsChk] at h
  | .non :: _, _ :: _, h => by simp [valsChk] at h
  | .bl _ :: _, _ :: _, h => by simp [valsChk] at h
  | .byt _ :: _, _ :: _, h => by simp [valsChk] at h
  | .flt _ :: _, _ :: _, h => by simp [valsChk] at h
  | .ref _ :: _, _ :: _, h => by simp [valsChk] at h
  | .ty _ :: _, _ :: _, h => by simp [valsChk] at h
  | .str _ :: _, .none :: _, h => by simp [valsChk] at h
  | .str _ :: _, .int _ _ :: _, h => by simp [valsChk] at h
  | .str _ :: _, .ref _ :: _, h => by simp [valsChk] at h
  | .str _ :: _, .bool _ :: _, h => by simp [valsChk] at h
  | .str _ :: _, .float _ _ :: _, h => by simp [valsChk] at h
  | .str _ :: _, .bytes _ _ :: _, h => by simp [valsChk] at h
  | .str _ :: _, .type _ :: _, h => by simp [valsChk] at h
  | .str _ :: _, .builtin _ :: _, h => by simp [valsChk] at h
  | .str _ :: _, .ellipsis :: _, h => by simp [valsChk] at h
  | .str _ :: _, .notImplemented :: _, h => by simp [valsChk] at h
  | .int _ :: _, .none :: _, h => by simp [valsChk] at h
  | .int _ :: _, .str _ _ :: _, h => by simp [valsChk] at h
  | .int _ :: _, .ref _ :: _, h => by simp [valsChk] at h
  | .int _ :: _, .bool _ :: _, h => by simp [valsChk] at h
  | .int _ :: _, .float _ _ :: _, h => by simp [valsChk] at h
  | .int _ :: _, .bytes _ _ :: _, h => by simp [valsChk] at h
  | .int _ :: _, .type _ :: _, h => by simp [valsChk] at h
  | .int _ :: _, .builtin _ :: _, h => by simp [valsChk] at h
  | .int _ :: _, .ellipsis :: _, h => by simp [valsChk] at h
  | .int _ :: _, .notImplemented :: _, h => by simp [valsChk] at h
noncomputable def seqChk (vs : List V) (its : Array Value) : Bool := valsChk vs its.toList && decide (its.size ≤ 100)
theorem sqk_mk {K : PySem.W.Frag} {a : Addr} {d : Option Addr} {its : Array Value} {n : Nat} {sl : Array (Option Value)} {vs : List V} (h : K.lookup a = some ⟨.type "tuple", d, .seq its n, sl⟩) (c : seqChk vs its = true) : SqK K a vs := by
  simp only [seqChk, Bool.and_eq_true, decide_eq_true_eq] at c
  exact ⟨_, its, n, h, rfl, rfl, Nat.le_trans c.2 (by decide), valsChk_ok c.1⟩
noncomputable def rowsChk : List DictEntry → List Str → Bool
  | [], [] => true
  | e :: es, k :: ks => (match e.key, e.val with
    | .str x _, .ref _ => decide (x = k)
    | _, _ => false) && rowsChk es ks
  | _, _ => false
noncomputable def refsOf (es : List DictEntry) : List Addr := es.map fun e => match e.val with
  | .ref a => a
  | _ => 0
theorem rows_of : ∀ {es : List DictEntry} {ks : List Str}, rowsChk es ks = true → PyProof.Rows.KTD.Rows RelV es ((ks.zip (refsOf es)).map fun p => (p.1, V.ref p.2))
  | [], [], _ => .nil
  | [], _ :: _, h => by simp [rowsChk] at h
  | _ :: _, [], h => by simp [rowsChk] at h
  | e :: es, k :: ks, h => by
    obtain ⟨hs, key, val⟩ := e
    rw [rowsChk, Bool.and_eq_true] at h
    cases key with
    | str x t =>
      cases val with
      | ref b =>
        have h1 : x = k := by simpa using h.1
        subst h1
        exact .cons rfl rfl (rows_of h.2)
      | _ => simp at h
    | _ => simp at h
theorem kd_mk {a : Addr} {es : Array DictEntry} {ep : Nat} {rows : List (Str × List V)} {as : List Addr} (sy : (a == sysModules) = false) (lk : K.lookup a = some ⟨.type "dict", none, .dict es ep, #[]⟩) (ks : rowsChk es.toList (rows.map (·.1)) = true)
    (rf : refsOf es.toList = as) (hl : as.length = rows.length) (sq : ∀ p ∈ rows.zip as, SqK K p.2 p.1.2) : KD K a rows as := by
  refine ⟨hl, ⟨sy, _, es, ep, lk, ⟨rfl, rfl, rfl⟩, rfl, ?_⟩, sq⟩
  have h := rows_of ks
  rw [rf, List.zip_map_left, List.map_map] at h
  exact h
theorem sq_cons {r : Str × List V} {b : Addr} {rows : List (Str × List V)} {as : List Addr} (h : SqK K b r.2) (t : ∀ p ∈ rows.zip as, SqK K p.2 p.1.2) : ∀ p ∈ (r :: rows).zip (b :: as), SqK K p.2 p.1.2 := fun p hp => by
  rcases List.mem_cons.mp hp with rfl | hp
  · exact h
  · exact t p hp
theorem sq_nil : ∀ p ∈ ([] : List (Str × List V)).zip ([] : List Addr), SqK K p.2 p.1.2 := fun p hp => by simp at hp
noncomputable def intRows : List DictEntry → List (Str × Int) → Bool
  | [], [] => true
  | e :: es, (k, i) :: ks => (match e.key, e.val with
    | .str x _, .int j _ => decide (x = k) && decide (j = i)
    | _, _ => false) && intRows es ks
  | _, _ => false
theorem introws_of : ∀ {es : List DictEntry} {ks : List (Str × Int)}, intRows es ks = true → PyProof.Rows.KTD.Rows RelV es (ks.map fun p => (p.1, V.int p.2))
  | [], [], _ => .nil
  | [], _ :: _, h => by simp [intRows] at h
  | _ :: _, [], h => by simp [intRows] at h
  | e :: es, (k, i) :: ks, h => by
    obtain ⟨hs, key, val⟩ := e
    rw [intRows, Bool.and_eq_true] at h
    cases key with
    | str x t =>
      cases val with
      | int b u =>
        have h1 : x = k ∧ b = i := by simpa using h.1
        obtain ⟨rfl, rfl⟩ := h1
        exact .cons rfl ⟨u, rfl⟩ (introws_of h.2)
      | _ => simp at h
    | _ => simp at h
theorem tabi_mk {a : Addr} {es : Array DictEntry} {ep : Nat} {rows : List (Str × Int)} (sy : (a == sysModules) = false) (lk : K.lookup a = some ⟨.type "dict", none, .dict es ep, #[]⟩) (ks : intRows es.toList rows = true) : TabK K a (rows.map fun p => (p.1, V.int p.2)) :=
  ⟨sy, _, es, ep, lk, ⟨rfl, rfl, rfl⟩, rfl, introws_of ks⟩
end L3
end
section
namespace L3
open PySem PySem.Spec PyProof.Rows L2
structure MadeX (h h' : Heap) (e C : Addr) (hh : Option Value) : Prop where
  keeps : ∀ b o, h.get? b = some o → h'.get? b = some o
  new : h.get? e = none
  there : ∃ oe vs t c, h'.get? e = some oe ∧ oe.cls = .ref C ∧ oe.data = .fields vs ∧ vs[0]? = some (.ref t) ∧ vs[1]? = some .none ∧ vs[2]? = some c ∧ (hh = none → c = .none)
section
variable {prog : Program} {w : World} {A : Around} {E : Value → Shared → Prop} {s : Shared}
theorem raise_new {α : Type} {Q : α → Shared → Prop} {h₀ : Heap} {e C : Addr} {vs : List Value} (hb : HB h₀ A) (hm : Heap.MadeExcOf h₀ s.heap e (.ref C) vs) (hE : ∀ h', MadeX h₀ h' e C A.handled → E (.ref e) { s with heap := h' }) :
    wpAny (model prog w) A (raiseNew (.ref e) : Sem α) Q E s := by
  obtain ⟨t, he, _, _⟩ := hm.there
  simp only [raiseNew]
  refine wpAny_bind (wpAny_handled ?_)
  rcases hb with hb | ⟨a, oe, ws, hb, e1, e2, e3⟩
  · rw [hb]
    refine wpAny_bind (wpAny_pure (wpAny_throw (hE s.heap ⟨hm.keeps, hm.new, _, _, t, _, he, rfl, rfl, rfl, rfl, rfl, fun _ => rfl⟩)))
  · rw [hb]
    have ne : a ≠ e := fun z => by rw [z, hm.new] at e1; cases e1
    dsimp only
    rw [if_pos (by simpa using ne)]
    refine wpAny_bind (wpAny_holding (un_chain (hm.keeps _ _ e1) e2 e3 ?_))
    refine wpAny_bind ?_
    show wpAny (model prog w) A (setField (.ref e) 2 (.ref a)) _ _ _
    refine wpAny_setField he rfl (by simp) (wpAny_throw (hE _ ⟨fun b o eb => ?_, hm.new, _, _, t, .ref a, Heap.get?_update_self _ he (Obj.isFreed_of_fields (Obj.data_mapFields rfl _)), Obj.cls_mapFields _ _, Obj.data_mapFields rfl _, by simp, by simp, by simp, fun z => by rw [hb] at z; cases z⟩))
    rw [Heap.get?_update_other _ _ fun z => by rw [← z, hm.new] at eb; cases eb]
    exact hm.keeps b o eb
end
noncomputable def ExcK (K : PySem.W.Frag) (C : Addr) : Prop := ∃ bmB newId initId, ExcBaseFacts "ValueError" newId initId bmB ∧ PySem.W.excIn K C bmB newId = true
theorem excK_obj {K : PySem.W.Frag} {h : Heap} {C : Addr} {bmB : List Value} {newId : String} (X : K.In h) (q : PySem.W.excIn K C bmB newId = true) :
    ∃ bm N nm qn bs hdct sn sub ab col dd k0 k1 k2 k3 k5 mN, h.get? C = some (excClassObj nm qn C N bs bm hdct sn sub ab col dd k0 k1 k2 k3 k5 newId) ∧ h.Ns N mN ∧ mN "__init__" = none ∧ OwnTail h bmB bm := by
  unfold PySem.W.excIn at q
  split at q
  · rename_i dd cd sl ho
    split at q
    · rename_i C' bm k0 k1 k2 k3 n k5 hm hs
      simp only [Bool.and_eq_true, beq_iff_eq, Bool.not_eq_true'] at q
      obtain ⟨⟨⟨⟨⟨rfl, rfl⟩, hdel⟩, ht⟩, hok⟩, hni⟩ := q
      obtain ⟨nm, bs, mro, ns, qn, hd, sn, sub, ab, col, del⟩ := cd
      dsimp only at hm hdel hok hni
      subst hm hdel
      have hsl : sl = #[k0, k1, k2, k3, some (.builtin n), k5] := by
        obtain ⟨l⟩ := sl
        simp only at hs
        rw [hs]
      subst hsl
      exact ⟨bm, ns, nm, qn, bs, hd, sn, sub, ab, col, dd, k0, k1, k2, k3, k5, _, X _ _ ho, .of_isNs (PySem.W.isNs_of_in X hok), PySem.W.nsMap_none_of_in X hok hni, PySem.W.tail_of_in X ht⟩
    · cases q
  · cases q
noncomputable def tRaise (G : Hp → Prop) (t : TA) : TS := fun D σ H => t σ H fun vs H1 => vs.length ≤ 100 ∧ G H1
theorem ps_raise {X : Cx} {G : Hp → Prop} {x : Str} {C : Addr} {e₀ : Expr} {t : TA} {np cpos pos : Pos} (hK : ExcK X.K C) (hm : X.mg x = some (.ref C)) (ha : PA X [e₀] t)
    (hxe : ∀ pins σ H s e h', Inv X pins σ H s → MadeX s.heap h' e C X.A.handled → G H → X.xe (.ref e) { s with heap := h' }) (hc : X.calm = true := by rfl) (hg : Gl X x := by rfl) (hdb : (x == ("__debug__" : Str)) = false := by decide)
    (he : starEach [e₀] X.env = [(false, eval e₀ X.env)] := by rfl) : PS X (.Raise (some (.Call (.Name x np) [e₀] [] cpos)) none pos) (tRaise G t) := by
  intro pins s σ H D I h
  obtain ⟨bmB, newId, initId, FB, q⟩ := hK
  have key : wpAny (model X.prog X.w) X.A (eval (.Call (.Name x np) [e₀] [] cpos) X.env) (fun v s₁ => ∃ e t h₀ vs, v = .ref e ∧ X.K.In s₁.heap ∧
      s₁.heap.get? e = some { cls := .ref C, data := .fields #[.ref t, .none, .none, .none, .bool false, .none] } ∧ HB h₀ X.A ∧ Heap.MadeExcOf h₀ s₁.heap e (.ref C) vs ∧ ∀ h', MadeX h₀ h' e C X.A.handled → X.xe (.ref e) { s₁ with heap := h' }) X.xe s := by
    refine wpAny_Call_Name_kw (ld_glob I hg hm ?_ hdb)
    have hpa := ha cpos pins s σ H _ I h
    rw [he] at hpa ⊢
    unfold callWith
    refine wpAny_bind (wpAny_holding (Calls.evalArgs_plain (thn hpa fun us s1 ⟨vs, H1, I1, r, hl, g⟩ => wpAny_bind (wpAny_standAt ?_))))
    obtain ⟨bm, N, nm, qn, bs, hdct, sn, sub, ab, col, dd, k0, k1, k2, k3, k5, mN, hC, hN, hni, T⟩ := excK_obj I1.kIn q
    have hb := I1.hb hc
    have hx := hxe pins σ H1 s1
    have kin := I1.kIn
    obtain ⟨hp, gn, d, tk, os⟩ := s1
    show wpAny _ _ (keeperOf (.ref C) >>= _) _ _ _
    refine wpAny_bind (wpAny_keeperOf_exc hC ?_)
    refine wpAny_bind (wpAny_call_exc_subT (hrest := by rw [List.nil_append, ← r.length]; exact Nat.le_trans hl (by decide)) FB T hC hN hni fun h' e hm' => wpAny_bind (wpAny_holding (wpAny_point (wpAny_pure ?_))))
    obtain ⟨t, ht, _, _⟩ := hm'.there
    exact ⟨e, t, hp, _, rfl, kin.keeps hm'.keeps, ht, hb, hm', fun h'' mx => hx e h'' I1 mx g⟩
  rw [arm_exec_Raise]
  refine wpAny_bind (wpAny_standAt ?_)
  unfold raiseStmt
  refine wpAny_bind (wpAny_bind (thn key fun v s₁ h₁ => wpAny_bind (wpAny_standAt (wpAny_pure ?_))))
  obtain ⟨e, t, h₀, vs, rfl, kin, he', hb, hm', hE⟩ := h₁
  obtain ⟨bm, N, nm, qn, bs, hdct, sn, sub, ab, col, dd, k0, k1, k2, k3, k5, mN, hC, hN, hni, T⟩ := excK_obj kin q
  have hcB : (Value.ref C :: bm).contains (.type "BaseException") = true := by rw [List.contains_cons, T.hasType FB.hasBase, Bool.or_true]
  obtain ⟨hp, gn, d, tk, os⟩ := s₁
  repeat (first | with_reducible refine wpAny_loadPart_at he' ?_ | with_reducible refine wpAny_loadPart_at hC ?_ | (with_reducible refine wpAny_isSubtype_exc hC ?_; rw [hcB]) | wp_step)
  exact raise_new hb hm' hE
end L3
end
section
namespace L3
open PySem PySem.Spec PyProof.Rows L2
noncomputable def Ex (h : Heap) (a C : Addr) (T c : Value) : Prop := ∃ oe vs a0, h.get? a = some oe ∧ oe.cls = .ref C ∧ oe.data = .fields vs ∧ vs[0]? = some a0 ∧ vs[1]? = some T ∧ vs[2]? = some c
noncomputable def Tb (h : Heap) (T : Addr) (fl : Value) : Prop := ∃ oT ts, h.get? T = some oT ∧ oT.data = .fields ts ∧ ts[3]? = some fl
structure Stp (fs : List Addr) (xs : List Addr) (h h' : Heap) : Prop where
  keep : ∀ b o, h.get? b = some o → b ∉ fs → b ∉ xs → h'.get? b = some o
  slot : ∀ b o, h.get? b = some o → b ∈ fs → b ∉ xs → ∃ sl, h'.get? b = some { o with slots := sl }
section
variable {M : Model} {A : Around} {E : Value → Shared → Prop} {s : Shared}
theorem fs_ne {base : Heap} {l : List Env} {b : Addr} {o : Obj} {vs : Array Value} (hl : s.heap.FunFrames base l) (e : s.heap.get? b = some o) (d : o.data = .fields vs) : b ∉ frs l := fun hm => by
  obtain ⟨_, o', ho, nf⟩ := hl.mem hm
  rw [e] at ho
  cases ho
  exact nf vs d
theorem entry_new {base : Heap} {env : Env} {outer : List Env} {L a C : Addr} {head T c : Value} {hadNext : Bool} {Q : Unit → Shared → Prop} (hfr : A.frames = some (env :: outer)) (hl : s.heap.FunFrames base (env :: outer)) (hf : env.frame = some L) (x : Ex s.heap a C T c)
    (h : ∀ h' T', Ex h' a C (.ref T') c → Tb h' T' (rawInt L) → s.heap.get? T' = none → T' ≠ a → Stp (frs (env :: outer)) [a] s.heap h' → Q () { s with heap := h' }) :
    wpAny M A (do let f ← frameOf env; let pl ← entryPlaceOf L hadNext; let b ← EntryCells.newEntry head f .none (rawInt L) .none pl; setField (.ref a) 1 b) Q E s := by
  obtain ⟨oe, vs, a0, he, hc, hd, h0, h1, h2⟩ := x
  have hne : a ∉ frs (env :: outer) := fs_ne hl he hd
  refine wpAny_bind (wpAny_frameOf_fun hfr hl hf fun k1 hs => wpAny_bind (wpAny_entryPlaceOf fun pl hpl => ?_))
  unfold EntryCells.newEntry newFields
  refine wpAny_bind (wpAny_newObj_type ?_ (hpl.sizeOk5 _ _ _ _ _))
  have he1 : k1.get? a = some oe := (hs.2.1 a hne).trans he
  have sz : k1.objs.size = s.heap.objs.size := hs.1
  have nT : k1.objs.size ≠ a := Nat.ne_of_gt (Heap.lt_size he1)
  refine wpAny_setField (Heap.get?_push_of_some _ he1) hd (Array.getElem?_eq_some_iff.mp h1).1 (h _ k1.objs.size ?_ ?_ ?_ nT ?_)
  · refine ⟨_, _, a0, Heap.get?_update_self _ (Heap.get?_push_of_some _ he1) (Obj.isFreed_of_fields (Obj.data_mapFields hd _)), (Obj.cls_mapFields _ _).trans hc, Obj.data_mapFields hd _, ?_, ?_, ?_⟩
    · rw [Array.getElem?_setIfInBounds_ne (by decide)]; exact h0
    · have := (Array.getElem?_eq_some_iff.mp h1).1
      simp [this]
    · rw [Array.getElem?_setIfInBounds_ne (by decide)]; exact h2
  · refine ⟨_, _, (Heap.get?_update_other _ _ (Ne.symm nT)).trans (Heap.get?_push_size _ rfl), rfl, ?_⟩
    first | (simp; done) | (rcases hpl with rfl | ⟨_, _, _, _, _, _, _, rfl⟩ <;> simp)
  · rw [sz]
    exact Heap.get?_none_of_le (Nat.le_refl _)
  · refine ⟨fun b o e n m => ?_, fun b o e n m => ?_⟩
    · have e1 : k1.get? b = some o := (hs.2.1 b n).trans e
      rw [Heap.get?_update_other _ _ fun z => m (by simp [z])]
      exact Heap.get?_push_of_some _ e1
    · obtain ⟨sl, e1⟩ := hs.2.2 b o e
      refine ⟨sl, ?_⟩
      rw [Heap.get?_update_other _ _ fun z => m (by simp [z])]
      exact Heap.get?_push_of_some _ e1
theorem note_first {base : Heap} {env : Env} {outer : List Env} {L a C : Addr} {c : Value} {Q : Unit → Shared → Prop} (hfr : A.frames = some (env :: outer)) (hl : s.heap.FunFrames base (env :: outer)) (hf : env.frame = some L) (x : Ex s.heap a C .none c)
    (h : ∀ h' T', Ex h' a C (.ref T') c → Tb h' T' (rawInt L) → s.heap.get? T' = none → T' ≠ a → Stp (frs (env :: outer)) [a] s.heap h' → Q () { s with heap := h' }) : wpAny M A (noteFrame (.ref a) env) Q E s := by
  obtain ⟨oe, vs, a0, he, hc, hd, h0, h1, h2⟩ := id x
  unfold noteFrame
  simp only [hf]
  refine wpAny_bind (wpAny_field he hd h1 ?_)
  rw [if_neg (by decide)]
  exact entry_new hfr hl hf x h
theorem note_next {base : Heap} {env : Env} {outer : List Env} {L a C T : Addr} {c : Value} {Q : Unit → Shared → Prop} (hfr : A.frames = some (env :: outer)) (hl : s.heap.FunFrames base (env :: outer)) (hf : env.frame = some L) (x : Ex s.heap a C (.ref T) c) (y : Tb s.heap T .none) (hTa : T ≠ a)
    (h : ∀ h' T', Ex h' a C (.ref T') c → Tb h' T' (rawInt L) → s.heap.get? T' = none → T' ≠ a → Stp (frs (env :: outer)) [a, T] s.heap h' → Q () { s with heap := h' }) : wpAny M A (noteFrame (.ref a) env) Q E s := by
  obtain ⟨oe, vs, a0, he, hc, hd, h0, h1, h2⟩ := id x
  obtain ⟨oT, ts, hT, dT, h3⟩ := y
  unfold noteFrame
  simp only [hf]
  refine wpAny_bind (wpAny_field he hd h1 ?_)
  rw [if_pos (show (Value.ref T != Value.none) = true from by simp)]
  refine wpAny_bind (wpAny_field hT dT h3 ?_)
  rw [if_neg (show ¬ ((Value.none == rawInt L) = true) from by simp [rawInt])]
  refine wpAny_bind (wpAny_setField hT dT (Array.getElem?_eq_some_iff.mp h3).1 ?_)
  have oth : ∀ b, b ≠ T → (s.heap.update T (Obj.mapFields (·.setIfInBounds 3 Value.none))).get? b = s.heap.get? b := fun b hb => Heap.get?_update_other _ _ (Ne.symm hb)
  have nr : ∀ b o, s.heap.get? b = some o → (∀ vs, o.data ≠ .fields vs) → b ≠ T := fun b o hb nf q => by
    rw [q, hT] at hb
    cases hb
    exact nf ts dT
  refine entry_new (s := { s with heap := s.heap.update T (Obj.mapFields (·.setIfInBounds 3 Value.none)) }) hfr (hl.of_keeps fun b o hb nf => ⟨o, (oth b (nr b o hb nf)).trans hb, rfl⟩) hf ⟨oe, vs, a0, (oth a (Ne.symm hTa)).trans he, hc, hd, h0, h1, h2⟩ fun h' T' x1 x2 x3 x4 x5 => h h' T' x1 x2 ?_ x4 ⟨fun b o e n m => ?_, fun b o e n m => ?_⟩
  · by_cases z : T' = T
    · rw [z] at x3
      have := Heap.get?_update_self (Obj.mapFields (·.setIfInBounds 3 Value.none)) hT (Obj.isFreed_of_fields (Obj.data_mapFields dT _))
      rw [x3] at this
      cases this
    · rw [← oth T' z]; exact x3
  · exact x5.keep b o ((oth b fun z => m (by simp [z])).trans e) n fun z => m (by simp at z; simp [z])
  · exact x5.slot b o ((oth b fun z => m (by simp [z])).trans e) n fun z => m (by simp at z; simp [z])
theorem flight_none {a C T : Addr} {c fl : Value} {Q : Unit → Shared → Prop} (x : Ex s.heap a C (.ref T) c) (y : Tb s.heap T fl) (hTa : T ≠ a)
    (h : ∀ h', Ex h' a C (.ref T) c → Tb h' T .none → (∀ b, b ≠ T → h'.get? b = s.heap.get? b) → Q () { s with heap := h' }) : wpAny M A (setFlight (.ref a) none) Q E s := by
  obtain ⟨oe, vs, a0, he, hc, hd, h0, h1, h2⟩ := x
  obtain ⟨oT, ts, hT, dT, h3⟩ := y
  have l3 := (Array.getElem?_eq_some_iff.mp h3).1
  unfold setFlight
  refine wpAny_bind (wpAny_field he hd h1 ?_)
  rw [if_pos (show (Value.ref T != Value.none) = true from by simp)]
  have oth : ∀ b, b ≠ T → (s.heap.update T (Obj.mapFields (·.setIfInBounds 3 ((none : Option Addr).elim Value.none fun f => rawInt f)))).get? b = s.heap.get? b := fun b hb => Heap.get?_update_other _ _ (Ne.symm hb)
  exact wpAny_setField hT dT l3 (h _ ⟨oe, vs, a0, (oth a (Ne.symm hTa)).trans he, hc, hd, h0, h1, h2⟩ ⟨_, _, Heap.get?_update_self _ hT (Obj.isFreed_of_fields (Obj.data_mapFields dT _)), Obj.data_mapFields dT _, by simp [l3]⟩ oth)
theorem leave_first {base : Heap} {env : Env} {outer : List Env} {L a C : Addr} {c : Value} {Q : Unit → Shared → Prop} (hfr : A.frames = some (env :: outer)) (hl : s.heap.FunFrames base (env :: outer)) (hf : env.frame = some L) (x : Ex s.heap a C .none c)
    (h : ∀ h' T', Ex h' a C (.ref T') c → Tb h' T' .none → s.heap.get? T' = none → T' ≠ a → Stp (frs (env :: outer)) [a] s.heap h' → Q () { s with heap := h' }) : wpAny M A (leaving env (.ref a)) Q E s := by
  unfold leaving
  refine wpAny_bind (note_first hfr hl hf x fun h1 T1 x1 y1 n1 m1 p1 => flight_none (s := { s with heap := h1 }) x1 y1 m1 fun h2 x2 y2 o2 => h h2 T1 x2 y2 n1 m1 ?_)
  refine ⟨fun b o e n m => (o2 b fun z => by rw [z, n1] at e; cases e).trans (p1.keep b o e n m), fun b o e n m => ?_⟩
  obtain ⟨sl, q⟩ := p1.slot b o e n m
  exact ⟨sl, (o2 b fun z => by rw [z, n1] at e; cases e).trans q⟩
theorem leave_next {base : Heap} {env : Env} {outer : List Env} {L a C T : Addr} {c : Value} {Q : Unit → Shared → Prop} (hfr : A.frames = some (env :: outer)) (hl : s.heap.FunFrames base (env :: outer)) (hf : env.frame = some L) (x : Ex s.heap a C (.ref T) c) (y : Tb s.heap T .none) (hTa : T ≠ a)
    (h : ∀ h' T', Ex h' a C (.ref T') c → Tb h' T' .none → s.heap.get? T' = none → T' ≠ a → Stp (frs (env :: outer)) [a, T] s.heap h' → Q () { s with heap := h' }) : wpAny M A (leaving env (.ref a)) Q E s := by
  unfold leaving
  refine wpAny_bind (note_next hfr hl hf x y hTa fun h1 T1 x1 y1 n1 m1 p1 => flight_none (s := { s with heap := h1 }) x1 y1 m1 fun h2 x2 y2 o2 => h h2 T1 x2 y2 n1 m1 ?_)
  refine ⟨fun b o e n m => (o2 b fun z => by rw [z, n1] at e; cases e).trans (p1.keep b o e n m), fun b o e n m => ?_⟩
  obtain ⟨sl, q⟩ := p1.slot b o e n m
  exact ⟨sl, (o2 b fun z => by rw [z, n1] at e; cases e).trans q⟩
end
end L3
end
section
namespace L3
open PySem PySem.Spec PyProof.Rows L2
theorem objOk_some {P : Program} {w : World} {H : Hp} {h : Heap} {a : Addr} {o : HO} (x : ObjOk P w H h a o) : ∃ u, h.get? a = some u := by
  cases o with
  | lst xs => obtain ⟨_, _, _, _, e⟩ := x; exact ⟨_, e⟩
  | tup xs => obtain ⟨_, _, _, o, e, _⟩ := x; exact ⟨_, e⟩
  | dK kvs => obtain ⟨_, _, _, _, o, _, _, e, _⟩ := x; exact ⟨_, e⟩
  | dT kvs => obtain ⟨_, _, _, _, o, _, _, e, _⟩ := x; exact ⟨_, e⟩
  | set S n => obtain ⟨o, _, _, _, e, _⟩ := x; exact ⟨_, e⟩
  | ins C dx fs => obtain ⟨_, _, _, e, _⟩ := x; exact ⟨_, e⟩
  | own y => exact x
  | xd fs => obtain ⟨_, ⟨_, _, _, e, _⟩, _⟩ := x; exact ⟨_, e⟩
  | rng lo hi => obtain ⟨_, _, _, e⟩ := x; exact ⟨_, e⟩
  | frz ob u => obtain ⟨e, _⟩ := x; exact ⟨_, e⟩
  | tbl ps => cases ps with
    | tab q ln cl => rcases x with e | ⟨c, e, _⟩ <;> exact ⟨_, e⟩
    | code q => obtain ⟨c, o, vs, t, e1, e2, _⟩ := x; cases e1; exact ⟨_, e2⟩
  | met f y => exact ⟨_, show h.get? a = some _ from x⟩
  | ext φ => obtain ⟨_, e, _⟩ := x; exact e
theorem hok_none {P : Program} {w : World} {H : Hp} {h : Heap} {a : Addr} (x : HOk P w H h) (e : h.get? a = none) : H a = none := by
  cases q : H a with
  | none => rfl
  | some o =>
    obtain ⟨u, z⟩ := objOk_some (x a o q)
    rw [e] at z; cases z
theorem Stp.any {fs xs : List Addr} {h h' : Heap} (p : Stp fs xs h h') {b : Addr} {o : Obj} (e : h.get? b = some o) (m : b ∉ xs) : ∃ sl, h'.get? b = some { o with slots := sl } := by
  by_cases hb : b ∈ fs
  · exact p.slot b o e hb m
  · exact ⟨o.slots, p.keep b o e hb m⟩
theorem hok_stp {P : Program} {w : World} {H : Hp} {h h' : Heap} {fs xs : List Addr} (x : HOk P w H h) (p : Stp fs xs h h') (nf : ∀ b ∈ fs, H b = none) (nx : ∀ b ∈ xs, H b = none) : HOk P w H h' := fun a o e => by
  have st : ∀ b u, H b ≠ none → h.get? b = some u → h'.get? b = some u := fun b u n q => p.keep b u q (fun z => n (nf b z)) fun z => n (nx b z)
  refine (x a o e).stay (fun b u hb q => st b u ?_ q) (fun _ q => q) fun _ _ q => q
  rcases hb with z | z
  · rw [z, e]; simp
  · rw [z]; simp
structure Fre (X : Cx) (pins : List (Addr × Obj)) (H : Hp) (b : Addr) : Prop where
  un : H b = none
  new : X.s₀.heap.get? b = none
  loc : b ≠ X.env.locals
  cel : ∀ x c, X.env.cells.lookup x = some c → c ≠ b
  pin : ∀ p ∈ X.pn ++ pins, p.1 ≠ b
section
variable {X : Cx} {pins : List (Addr × Obj)} {σ : L2.St} {H H' : Hp} {s s' : Shared} {h' : Heap} {a : Addr}
theorem fre_new (I : Inv X pins σ H s) (e : s.heap.get? a = none) (hx : a ∉ X.ex) (hn : H' a = none) : Fre X pins H' a := by
  refine ⟨hn, ?_, fun z => ?_, fun x c q z => ?_, fun p hp z => ?_⟩
  · cases q : X.s₀.heap.get? a with
    | none => rfl
    | some o =>
      obtain ⟨o', z⟩ := I.base.there a o q hx
      rw [e] at z; cases z
  · obtain ⟨m, ⟨o, _, _, ho, _⟩, _⟩ := I.loc
    rw [← z, e] at ho; cases ho
  · obtain ⟨v, o, ho, _⟩ := I.cell x c q
    rw [z, e] at ho; cases ho
  · have := (I.pin p hp).1
    rw [z, e] at this; cases this
theorem Inv.stp {ch : List Addr} (I : Inv X pins σ H s) (p : Stp (frs X.stack) ch s.heap h') (hc : ∀ b ∈ ch, Fre X pins H b) : Inv X pins σ H { s with heap := h' } := by
  have nch : ∀ b o, X.s₀.heap.get? b = some o → b ∉ ch := fun b o e z => by rw [(hc b z).new] at e; cases e
  have nst : ∀ b o, X.s₀.heap.get? b = some o → b ∉ X.fs → b ∉ frs X.stack := fun b o e hb z => by
    rcases List.mem_cons.mp (I.stkSub b z) with q | q
    · have := Heap.lt_size e
      rw [q] at this
      exact absurd this (Nat.not_lt.mpr I.ok.above)
    · exact hb q
  have cellK : ∀ x c, X.env.cells.lookup x = some c → ∀ v, s.heap.IsCell c v → h'.IsCell c v := fun x c e v ⟨o, ho, hd⟩ => by
    obtain ⟨sl, q⟩ := p.any ho fun z => (hc c z).cel x c e rfl
    exact ⟨_, q, hd⟩
  refine ⟨I.ok, I.os, I.bare, ⟨fun b o e n hb hx => ?_, fun b o e n hb hx => ?_, fun b o e n hx => I.base.free b o e n hx, fun b o e hx => ?_, I.base.tups, I.base.frzs, I.base.tbls⟩, ?_, fun x c e => ?_, I.free, I.freeC, fun q hq => ?_, hok_stp I.hok p I.stkFree fun b hb => (hc b hb).un, I.len⟩
  · exact p.keep b o (I.base.keep b o e n hb hx) (nst b o e hb) (nch b o e)
  · obtain ⟨sl, e1⟩ := I.base.slot b o e n hb hx
    obtain ⟨sl', e2⟩ := p.any e1 (nch b o e)
    exact ⟨sl', e2⟩
  · obtain ⟨o', e1⟩ := I.base.there b o e hx
    obtain ⟨sl, e2⟩ := p.any e1 (nch b o e)
    exact ⟨_, e2⟩
  · obtain ⟨m, ⟨o, es, ep, ho, r⟩, hl⟩ := I.loc
    obtain ⟨sl, hL⟩ := p.any ho fun z => (hc _ z).loc rfl
    refine ⟨m, ⟨_, es, ep, hL, r⟩, fun i x v e1 e2 e3 => ?_⟩
    obtain ⟨u, r, l⟩ := hl i x v e1 e2 e3
    refine ⟨u, r, ?_⟩
    rcases l with l | ⟨k, c, e, z⟩
    · exact .inl l
    · exact .inr ⟨k, c, e, cellK x c e _ z⟩
  · obtain ⟨v, z⟩ := I.cell x c e
    exact ⟨v, cellK x c e v z⟩
  · obtain ⟨e, n, ne, nf, d⟩ := I.pin q hq
    exact ⟨p.keep q.1 q.2 e (fun z => (List.mem_cons.mp (I.stkSub q.1 z)).elim ne nf) fun z => (hc q.1 z).pin q hq rfl, n, ne, nf, d⟩
end
structure Fly (X : Cx) (pins : List (Addr × Obj)) (H : Hp) (s : Shared) (a C T : Addr) (c fl : Value) : Prop where
  ex : Ex s.heap a C (.ref T) c
  tb : Tb s.heap T fl
  ne : T ≠ a
  fa : Fre X pins H a
  fT : Fre X pins H T
noncomputable def CXo (P : Program) (w : World) : CXT := fun hh outer H s E e s' => ∃ (a C T : Addr) (c : Value) (H' : Hp), e = .ref a ∧ s'.os = s.os ∧ AllBare s'.gens ∧ Un (frs outer) [] H H' s.heap s'.heap ∧ HOk P w H' s'.heap ∧
  Ex s'.heap a C (.ref T) c ∧ (hh = none → c = .none) ∧ Tb s'.heap T .none ∧ T ≠ a ∧ H' a = none ∧ H' T = none ∧ s.heap.get? a = none ∧ s.heap.get? T = none ∧ E (.ref C) none H'
section
variable {X : Cx} {pins : List (Addr × Obj)} {σ : L2.St} {H : Hp} {s s' : Shared} {E : XK} {e : Value} {hh : Option Value}
theorem fly_of (I : Inv X pins σ H s) (hx : X.ex = []) (h : CXo X.prog X.w hh X.stack H s E e s') : ∃ a C T c H', e = .ref a ∧ Inv X pins σ H' s' ∧ Fly X pins H' s' a C T c .none ∧ (hh = none → c = .none) ∧ E (.ref C) none H' := by
  obtain ⟨a, C, T, c, H', rfl, os, bare, un, hok, ex, hc, tb, ne, na, nT, fa, fT, q⟩ := h
  refine ⟨a, C, T, c, H', rfl, I.call' os un hok bare (fun b z => absurd z (by simp)), ⟨ex, tb, ne, fre_new I fa (by rw [hx]; simp) na, fre_new I fT (by rw [hx]; simp) nT⟩, hc, q⟩
end
section
variable {P : Program} {w : World} {K : PySem.W.Frag} {mg : Str → Option Value} {base : Heap} {N : List Str} {qual : Str} {sc : Scope} {f : Addr} {cd : Value} {A : Around} {outer : List Env} {s₀ : Shared} {H₀ : Hp} {E : XK}
theorem out_of {σ : L2.St} {H : Hp} {s : Shared} {pins : List (Addr × Obj)} {a C T : Addr} {c : Value} {h' : Heap} {ch : List Addr}
    (I : Inv (cxOf (CXo P w) P w K mg base N qual sc f cd A outer s₀ H₀ E) pins σ H s) (p : Stp (frs (cxOf (CXo P w) P w K mg base N qual sc f cd A outer s₀ H₀ E).stack) ch s.heap h') (hch : ∀ b ∈ ch, Fre (cxOf (CXo P w) P w K mg base N qual sc f cd A outer s₀ H₀ E) pins H b)
    (fa : Fre (cxOf (CXo P w) P w K mg base N qual sc f cd A outer s₀ H₀ E) pins H a) (ex : Ex h' a C (.ref T) c) (tb : Tb h' T .none) (nT : s.heap.get? T = none) (ne : T ≠ a) (hc : A.handled = none → c = .none) (q : E (.ref C) none H) :
    CXo P w A.handled outer H₀ s₀ E (.ref a) { s with heap := h' } := by
  have J := Inv.stp I p hch
  exact ⟨a, C, T, c, H, rfl, J.os, J.bare, J.base, J.hok, ex, hc, tb, ne, fa.un, hok_none I.hok nT, fa.new, (fre_new (H' := H) I nT (by show T ∉ []; simp) (hok_none I.hok nT)).new, q⟩
theorem xe_fly {σ : L2.St} {H : Hp} {s : Shared} {pins : List (Addr × Obj)} {a C T : Addr} {c : Value}
    (I : Inv (cxOf (CXo P w) P w K mg base N qual sc f cd A outer s₀ H₀ E) pins σ H s) (F : Fly (cxOf (CXo P w) P w K mg base N qual sc f cd A outer s₀ H₀ E) pins H s a C T c .none) (hc : A.handled = none → c = .none) (q : E (.ref C) none H) :
    (cxOf (CXo P w) P w K mg base N qual sc f cd A outer s₀ H₀ E).xe (.ref a) s := by
  refine leave_next I.ok.frames I.stack rfl F.ex F.tb F.ne fun h' T' x1 x2 x3 x4 p => ?_
  exact out_of (ch := [a, T]) I p (fun b hb => by rcases List.mem_cons.mp hb with z | z; · rw [z]; exact F.fa
                                                  · rw [List.mem_singleton.mp z]; exact F.fT) F.fa x1 x2 x3 x4 hc q
theorem passes_o {N : List Str} : Passes (CXo P w) (cxOf (CXo P w) P w K mg base N qual sc f cd A outer s₀ H₀ E) E := fun pins σ H s e s' I h => by
  obtain ⟨a, C, T, c, H', rfl, J, F, hc, q⟩ := fly_of I rfl h
  exact xe_fly J F hc q
theorem xe_made {σ : L2.St} {H : Hp} {s : Shared} {pins : List (Addr × Obj)} {a C : Addr} {h' : Heap}
    (I : Inv (cxOf (CXo P w) P w K mg base N qual sc f cd A outer s₀ H₀ E) pins σ H s) (m : MadeX s.heap h' a C A.handled) (q : E (.ref C) none H) :
    (cxOf (CXo P w) P w K mg base N qual sc f cd A outer s₀ H₀ E).xe (.ref a) { s with heap := h' } := by
  have J : Inv (cxOf (CXo P w) P w K mg base N qual sc f cd A outer s₀ H₀ E) pins σ H { s with heap := h' } := I.kept (t' := s.toks) m.keeps
  obtain ⟨oe, vs, t, c, e1, e2, e3, e4, e5, e6, e7⟩ := m.there
  have fa : Fre (cxOf (CXo P w) P w K mg base N qual sc f cd A outer s₀ H₀ E) pins H a := fre_new I m.new (by show a ∉ []; simp) (hok_none I.hok m.new)
  refine leave_first J.ok.frames J.stack rfl ⟨oe, vs, .ref t, e1, e2, e3, e4, e5, e6⟩ fun h'' T' x1 x2 x3 x4 p => ?_
  exact out_of (ch := [a]) J p (fun b hb => by rw [List.mem_singleton.mp hb]; exact fa) fa x1 x2 x3 x4 e7 q
end
theorem Df.okX {P : Program} {w : World} {K : PySem.W.Frag} {mg : Str → Option Value} {x : Str} {st : Stmt} {N ps : List Str} {k : Nat} {sp : Sp} (D : Df K mg x st ps) (S : FnScope N ps (defScope st)) (len : ∀ vs H Q E, sp vs H Q E → vs.length = ps.length)
    (hbody : ∀ (base : Heap) (f : Addr) (cdv : Value) (A : Around) (outer : List Env) (s : Shared) (H : Hp) (vs : List V) (Q : VK) (E : XK), Room k (A.deeper (envOfC x (defScope st) s.heap.objs.size f cdv)) → sp vs H Q E →
      ∃ t, PSs (cxOf (CXo P w) P w K mg base N x (defScope st) f cdv A outer s H E) (defBody st) t ∧ t { nx := fun _ H' => Q .non H', rt := Q } (start N vs) H) : Cal P w K mg (CXo P w) x (k + 1) ps sp := by
  obtain ⟨f, fd, F, m, b⟩ := D
  refine ⟨f, fd, fun base => ?_, m, F.kp, b⟩
  obtain ⟨oc, od, kV, doc, pm, an, cdv, ct, osl, rfl, lk, hcd⟩ := F.ex
  exact fn_of lk hcd S len fun A outer s H vs Q E hr hsp => hbody base f cdv A outer s H vs Q E hr hsp
end L3
end
section
namespace L3
open PySem PySem.Spec PyProof.Rows L2
noncomputable abbrev suCx (X : Cx) (a : Addr) (oe : Obj) (cm : Bool) : Cx := { X with A := X.A.mark (some (.ref a)), calm := cm, pn := (a, oe) :: X.pn, xe := fun _ _ => False }
section
variable {X : Cx} {pins : List (Addr × Obj)} {σ : L2.St} {H : Hp} {s : Shared} {a : Addr} {oe : Obj} {cm : Bool}
theorem su_ok (ok : X.Ok) (hc : cm = true → ∃ vs, oe.data = .fields vs ∧ vs[2]? = some .none) : (suCx X a oe cm).Ok :=
  ⟨ok.mod, ok.kind, ok.glob, ok.blt, ok.above, ok.inj, ok.has, ok.cab, fun h => let ⟨vs, e1, e2⟩ := hc h; .inr ⟨a, oe, vs, rfl, .inr List.mem_cons_self, e1, e2⟩, ok.frames, ok.stk, ok.exf, ok.bs, ok.bsz, ok.noex, ok.exfs, ok.funs, ok.frf⟩
theorem su_in (I : Inv X pins σ H s) {vs : Array Value} (e : s.heap.get? a = some oe) (d : oe.data = .fields vs) (F : Fre X pins H a) (hc : cm = true → ∃ vs, oe.data = .fields vs ∧ vs[2]? = some .none) : Inv (suCx X a oe cm) pins σ H s := by
  refine ⟨su_ok I.ok hc, I.os, I.bare, I.base, I.loc, I.cell, I.free, I.freeC, fun p hp => ?_, I.hok, I.len⟩
  rcases List.mem_cons.mp (show p ∈ (a, oe) :: (X.pn ++ pins) from hp) with z | z
  · rw [z]
    exact ⟨e, F.un, F.loc, fs_ne I.funs e d, fun v q => by rw [d] at q; cases q⟩
  · exact I.pin p z
theorem su_out (ok : X.Ok) (I : Inv (suCx X a oe cm) pins σ H s) : Inv X pins σ H s := ⟨ok, I.os, I.bare, I.base, I.loc, I.cell, I.free, I.freeC, fun p hp => I.pin p (List.mem_cons_of_mem _ hp), I.hok, I.len⟩
theorem su_sp (ok : X.Ok) {D : Ends} {f : Flow} (h : SP (suCx X a oe cm) pins D f s) : SP X pins D f s := by
  cases f with
  | next => obtain ⟨σ', H', I, q⟩ := h; exact ⟨σ', H', su_out ok I, q⟩
  | brk => obtain ⟨σ', H', I, q⟩ := h; exact ⟨σ', H', su_out ok I, q⟩
  | cont => obtain ⟨σ', H', I, q⟩ := h; exact ⟨σ', H', su_out ok I, q⟩
  | ret u => obtain ⟨v, σ', H', I, r, q⟩ := h; exact ⟨v, σ', H', su_out ok I, r, q⟩
theorem inv_del {m : Str → Option Value} {i : Nat} {n : Str} {v : Option Value} {h' : Heap} {t' : Nat} (I : Inv X pins σ H s) (hN : X.N.Nodup) (hi : X.N[i]? = some n) (hx : X.env.scope.names.lookup n = some .local) (hn : s.heap.Ns X.env.locals m)
    (hl : ∀ (i : Nat) (x : Str) (v : V), X.N[i]? = some x → σ[i]? = some (some v) → Vis X.env.scope x → ∃ u, RelV v u ∧ Look X.env s.heap m x u)
    (hn' : h'.Ns X.env.locals (fun x => if x = n then v else m x)) (hs : Heap.SameBut X.env.locals s.heap h') : Inv X pins (σ.set i none) H { s with heap := h', toks := t' } := by
  have oth : ∀ b o, b ≠ X.env.locals → s.heap.get? b = some o → h'.get? b = some o := fun b o n e => (hs.2 b n).trans e
  have neL : ∀ b o, X.s₀.heap.get? b = some o → b ≠ X.env.locals := fun b o e => Nat.ne_of_lt (Nat.lt_of_lt_of_le (Heap.lt_size e) I.ok.above)
  have cellK : ∀ x c, X.env.cells.lookup x = some c → ∀ v, s.heap.IsCell c v → h'.IsCell c v := fun x c e v ⟨o, ho, hd⟩ => ⟨o, oth c o (I.cne x c e) ho, hd⟩
  obtain ⟨oL, _, _, hoL, _⟩ := id hn'
  refine ⟨I.ok, I.os, I.bare, ⟨fun b o e n hb hx => oth b o (neL b o e) (I.base.keep b o e n hb hx), fun b o e n hb hx => ?_, I.base.free, fun b o e hx => ?_, I.base.tups, I.base.frzs, I.base.tbls⟩, ⟨_, hn', fun j y v' e1 e2 e3 => ?_⟩, fun x c e => ?_, I.free, I.freeC, fun p hp => ?_, fun b u e => ?_, by simpa using I.len⟩
  · obtain ⟨sl, q⟩ := I.base.slot b o e n hb hx
    exact ⟨sl, oth b _ (neL b o e) q⟩
  · obtain ⟨o', q⟩ := I.base.there b o e hx
    exact ⟨o', oth b _ (neL b o e) q⟩
  · have hji : j ≠ i := fun z => by
      rw [z] at e2
      rw [List.getElem?_set_self' ] at e2
      cases q : σ[i]? <;> rw [q] at e2 <;> simp at e2
    rw [List.getElem?_set_ne (Ne.symm hji)] at e2
    obtain ⟨u, r, l⟩ := hl j y v' e1 e2 e3
    have hyn : y ≠ n := fun z => hji (nodup_ix hN (z ▸ e1) hi)
    refine ⟨u, r, ?_⟩
    rcases l with ⟨k, l⟩ | ⟨k, c, e, z⟩
    · exact .inl ⟨k, by show (if y = n then v else m y) = some u; rw [if_neg hyn]; exact l⟩
    · exact .inr ⟨k, c, e, cellK y c e _ z⟩
  · obtain ⟨v, z⟩ := I.cell x c e
    exact ⟨v, cellK x c e v z⟩
  · obtain ⟨e, n, ne, nf, d⟩ := I.pin p hp
    exact ⟨oth p.1 p.2 ne e, n, ne, nf, d⟩
  · have nL : ∀ c, H c ≠ none → c ≠ X.env.locals := fun c n z => n (by rw [z]; exact I.free)
    refine (I.hok b u e).stay (fun c o hc q => oth c o (nL c ?_) q) (fun _ q => q) fun _ _ q => q
    rcases hc with z | z
    · rw [z, e]; simp
    · rw [z]; simp
theorem name_gone {M : Model} {A : Around} {E : Value → Shared → Prop} {Q : Unit → Shared → Prop} {i : Nat} {n : Str} {pos : Pos} (I : Inv X pins σ H s) (hN : X.N.Nodup) (hi : X.N[i]? = some n) (hx : X.env.scope.names.lookup n = some .local) (h : ∀ s', Inv X pins (σ.set i none) H s' → Q () s') :
    wpAny M A (do bindName X.env n .none; unbindBehindTheSuite X.env n pos) Q E s := by
  obtain ⟨m, hn, hl⟩ := id I.loc
  refine wpAny_nameGoes_keeps hx hn (by rw [I.ok.kind]; rfl) fun h' v hn' hs => h _ (inv_del I hN hi hx hn hl hn' hs)
end
theorem exc_matches {K : PySem.W.Frag} {prog : Program} {w : World} {A : Around} {E : Value → Shared → Prop} {Q : Bool → Shared → Prop} {s : Shared} {a C C' : Addr} {oe : Obj} {b : Bool} (X : K.In s.heap) (he : s.heap.get? a = some oe) (hc : oe.cls = .ref C) (hK : ExcK K C') (e : PySem.W.subIn K (.ref C) (.ref C') = some b)
    (q : Q b s) : wpAny (model prog w) A (excMatches (.ref a) (.ref C')) Q E s := by
  obtain ⟨bmB, newId, initId, FB, qK⟩ := hK
  obtain ⟨bm, N, nm, qn, bs, hdct, sn, sub, ab, col, dd, k0, k1, k2, k3, k5, mN, hC, hN, hni, T⟩ := excK_obj X qK
  have hcB : (Value.ref C' :: bm).contains (.type "BaseException") = true := by rw [List.contains_cons, T.hasType FB.hasBase, Bool.or_true]
  have f := tc_notTuple
  have L := PySem.W.looks_subIn (M := model prog w) X e
  obtain ⟨hp, g, d, t, os⟩ := s
  unfold excMatches
  repeat (first | with_reducible refine wpAny_bind (L.at ?_) | (with_reducible refine wpAny_loadPart_at he ?_; rw [hc]) | with_reducible refine wpAny_loadPart_at hC ?_ | (with_reducible refine wpAny_isSubtype_exc hC ?_; rw [hcB]) | wp_step)
  cases b <;> (wp_walk; exact q)
noncomputable abbrev TH := Addr → Addr → TS
noncomputable def PH (X : Cx) (hs : List ExceptHandler) (t : TH) : Prop := ∀ (pins : List (Addr × Obj)) (s : Shared) (σ : L2.St) (H : Hp) (D : Ends) (a C T : Addr) (c : Value), Inv X pins σ H s → Fly X pins H s a C T c .none → (X.A.handled = none → c = .none) → t C a D σ H →
  wpAny (model X.prog X.w) X.A (handleBy (.ref a) X.env hs) (SP X pins D) X.xe s
noncomputable def hNil : TH := fun _ _ _ _ _ => False
theorem ph_nil {X : Cx} : PH X [] hNil := fun _ _ _ _ _ _ _ _ _ _ _ _ h => h.elim
noncomputable def Cm (X : Cx) (cm : Bool) : Prop := cm = true → X.A.handled = none
section
variable {X : Cx} {cm : Bool}
theorem fly_su {pins : List (Addr × Obj)} {s : Shared} {H : Hp} {a C T : Addr} {c fl : Value} (F : Fly X pins H s a C T c fl) (hc : X.A.handled = none → c = .none) (hm : Cm X cm) : ∃ oe vs, s.heap.get? a = some oe ∧ oe.cls = .ref C ∧ oe.data = .fields vs ∧ (cm = true → ∃ vs, oe.data = .fields vs ∧ vs[2]? = some .none) := by
  obtain ⟨oe, vs, a0, e1, e2, e3, e4, e5, e6⟩ := F.ex
  exact ⟨oe, vs, e1, e2, e3, fun z => ⟨vs, e3, by rw [e6, hc (hm z)]⟩⟩
theorem clause_test {x : Str} {C' : Addr} {np pos : Pos} {pins : List (Addr × Obj)} {s : Shared} {σ : L2.St} {H : Hp} {a C T : Addr} {c : Value} {b : Bool} {R : Result → Shared → Prop} (hK : ExcK X.K C') (hm : X.mg x = some (.ref C')) (hg : Gl X x) (hdb : (x == ("__debug__" : Str)) = false)
    (I : Inv X pins σ H s) (F : Fly X pins H s a C T c .none) (e : PySem.W.subIn X.K (.ref C) (.ref C') = some b)
    (h : ∀ s1, Inv X pins σ H s1 → Fly X pins H s1 a C T c .none → R (.ok (if b then .brk else .next)) s1) :
    codeAny (model X.prog X.w) (X.A.mark (some (.ref a))) (.handlers (.ref a) [.ExceptHandler (some (.Name x np)) none [] pos] X.env) R s := by
  obtain ⟨oe, vs, a0, e1, e2, e3, e4, e5, e6⟩ := F.ex
  obtain ⟨oT, ts, f1, f2, f3⟩ := F.tb
  have I0 : Inv X ((T, oT) :: pins) σ H s := I.pins_of fun p hp => by
    rcases List.mem_cons.mp hp with z | z
    · rw [z]
      exact ⟨f1, F.fT.un, F.fT.loc, fs_ne I.funs f1 f2, fun v q => by rw [f2] at q; cases q⟩
    · exact I.pin p (List.mem_append_right _ z)
  have fa' : Fre X ((T, oT) :: pins) H a := ⟨F.fa.un, F.fa.new, F.fa.loc, F.fa.cel, fun p hp => by
    rcases List.mem_append.mp hp with z | z
    · exact F.fa.pin p (List.mem_append_left _ z)
    · rcases List.mem_cons.mp z with z | z
      · rw [z]; exact F.ne
      · exact F.fa.pin p (List.mem_append_right _ z)⟩
  have I1 : Inv (suCx X a oe false) ((T, oT) :: pins) σ H s := su_in I0 e1 e3 fa' (fun z => nomatch z)
  refine codeAny_handlers_test (wpAny_mono (pe_gref (X := suCx X a oe false) (a := C') hm hg hdb _ _ _ _ (fun v H' => v = .ref C' ∧ H' = H) I1 ⟨rfl, rfl⟩) (fun v s1 hv => ?_) fun _ _ z => z.elim)
  obtain ⟨w, H', J, r, rfl, rfl⟩ := hv
  cases (show v = Value.ref C' from r)
  have k1 := (J.pin (a, oe) (by simp)).1
  have k2 := (J.pin (T, oT) (by simp)).1
  have J0 : Inv X pins σ H' s1 := (su_out I.ok J).pins_of fun p hp => I0.ok |> fun _ => (su_out I.ok J).pin p (List.mem_append_right _ (List.mem_cons_of_mem _ hp))
  exact exc_matches J0.kIn k1 e2 hK e (h s1 J0 ⟨⟨oe, vs, a0, k1, e2, e3, e4, e5, e6⟩, ⟨oT, ts, k2, f2, f3⟩, F.ne, F.fa, F.fT⟩)
theorem suite_in {pins : List (Addr × Obj)} {s : Shared} {σ : L2.St} {H : Hp} {a C T : Addr} {c fl : Value} {A : Around} {E : Value → Shared → Prop} {Q : Unit → Shared → Prop} (I : Inv X pins σ H s) (F : Fly X pins H s a C T c fl) (hc : X.A.handled = none → c = .none) (hm : Cm X cm)
    (h : ∀ s1 oe, Inv (suCx X a oe cm) pins σ H s1 → oe.cls = .ref C → Q () s1) : wpAny (model X.prog X.w) A (setFlight (.ref a) none) Q E s := by
  refine flight_none F.ex F.tb F.ne fun h' x1 x2 ot => ?_
  have p : Stp (frs X.stack) [T] s.heap h' := ⟨fun b o e _ m => (ot b (by simpa using m)).trans e, fun b o e _ m => ⟨o.slots, (ot b (by simpa using m)).trans e⟩⟩
  have J := Inv.stp I p fun b hb => by rw [List.mem_singleton.mp hb]; exact F.fT
  have F' : Fly X pins H { s with heap := h' } a C T c .none := ⟨x1, x2, F.ne, F.fa, F.fT⟩
  obtain ⟨oe, vs, e1, e2, e3, e4⟩ := fly_su F' hc hm
  exact h _ oe (su_in J e1 e3 F.fa e4) e2
noncomputable def hCl (K : PySem.W.Frag) (C' : Addr) (ts tr : TH) : TH := fun C a D σ H => ∃ b, PySem.W.subIn K (.ref C) (.ref C') = some b ∧ if b = true then ts C a D σ H else tr C a D σ H
theorem ph_cons {x : Str} {C' : Addr} {np pos : Pos} {b₀ : Stmt} {suite : List Stmt} {rest : List ExceptHandler} {ts tr : TH} (cm : Bool) (hK : ExcK X.K C') (hm : X.mg x = some (.ref C')) (hg : Gl X x) (hcm : Cm X cm)
    (hs : ∀ (a C : Addr) (oe : Obj), oe.cls = .ref C → PSs (suCx X a oe cm) (b₀ :: suite) (ts C a)) (hr : PH X rest tr) (hdb : (x == ("__debug__" : Str)) = false := by decide) :
    PH X (.ExceptHandler (some (.Name x np)) none (b₀ :: suite) pos :: rest) (hCl X.K C' ts tr) := by
  intro pins s σ H D a C T c I F hc h
  obtain ⟨b, e, h⟩ := h
  refine wpAny_handleBy_cons (clause_test hK hm hg hdb I F e fun s1 J F1 => ?_) (by intro q; cases q)
  cases b with
  | false =>
    have h : tr C a D σ H := by simpa using h
    exact hr pins s1 σ H D a C T c J F1 hc h
  | true =>
    have h : ts C a D σ H := by simpa using h
    refine codeAny_handlers_suite (suite_in J F1 hc hcm fun s2 oe J2 eo => ?_)
    exact wpAny_mono (hs a C oe eo pins s2 σ H D J2 h) (fun f s3 q => su_sp I.ok q) fun _ _ z => z.elim
noncomputable def D1 (i : Nat) (D : Ends) : Ends := { nx := fun σ H => D.nx (σ.set i none) H, rt := D.rt, bk := fun σ H => D.bk (σ.set i none) H, ct := fun σ H => D.ct (σ.set i none) H }
noncomputable def hAs (K : PySem.W.Frag) (i : Nat) (C' : Addr) (ts tr : TH) : TH := fun C a D σ H => ∃ b, PySem.W.subIn K (.ref C) (.ref C') = some b ∧ if b = true then ts C a (D1 i D) (σ.set i (some (.ref a))) H else tr C a D σ H
theorem ph_as {x y : Str} {i : Nat} {C' : Addr} {np pos : Pos} {b₀ : Stmt} {suite : List Stmt} {rest : List ExceptHandler} {ts tr : TH} (cm : Bool) (hN : X.N.Nodup) (hi : X.N[i]? = some y) (hy : X.env.scope.names.lookup y = some .local) (hK : ExcK X.K C') (hm : X.mg x = some (.ref C')) (hg : Gl X x) (hcm : Cm X cm)
    (hs : ∀ (a C : Addr) (oe : Obj), oe.cls = .ref C → PSs (suCx X a oe cm) (b₀ :: suite) (ts C a)) (hr : PH X rest tr) (hdb : (x == ("__debug__" : Str)) = false := by decide) :
    PH X (.ExceptHandler (some (.Name x np)) (some y) (b₀ :: suite) pos :: rest) (hAs X.K i C' ts tr) := by
  intro pins s σ H D a C T c I F hc h
  obtain ⟨b, e, h⟩ := h
  refine wpAny_handleBy_cons (clause_test hK hm hg hdb I F e fun s1 J F1 => ?_) (by intro q; cases q)
  cases b with
  | false =>
    have h : tr C a D σ H := by simpa using h
    exact hr pins s1 σ H D a C T c J F1 hc h
  | true =>
    have h : ts C a (D1 i D) (σ.set i (some (.ref a))) H := by simpa using h
    refine codeAny_handlers_suite_as (suite_in J F1 hc hcm fun s2 oe J2 eo => ?_)
    refine store_ok (X := suCx X a oe cm) (v := .ref a) J2 hN hi (.inl hy) rfl (fun s3 J3 => ?_) (.inr hy)
    refine wpAny_mono (hs a C oe eo pins s3 _ H (D1 i D) J3 h) (fun f s4 q => ?_) fun _ _ z => z.elim
    cases f with
    | next => obtain ⟨σ', H', K', q⟩ := q; exact name_gone (su_out I.ok K') hN hi hy fun s5 L => ⟨_, H', L, q⟩
    | brk => obtain ⟨σ', H', K', q⟩ := q; exact name_gone (su_out I.ok K') hN hi hy fun s5 L => ⟨_, H', L, q⟩
    | cont => obtain ⟨σ', H', K', q⟩ := q; exact name_gone (su_out I.ok K') hN hi hy fun s5 L => ⟨_, H', L, q⟩
    | ret u => obtain ⟨v, σ', H', K', r, q⟩ := q; exact name_gone (su_out I.ok K') hN hi hy fun s5 L => ⟨v, _, H', L, r, q⟩
end
noncomputable abbrev TB := Ends → (Addr → L2.St → Hp → Prop) → L2.St → Hp → Prop
noncomputable def BX (X : Cx) (pins : List (Addr × Obj)) (G : Addr → L2.St → Hp → Prop) (e : Value) (s' : Shared) : Prop := ∃ (a C T : Addr) (c : Value) (σ' : L2.St) (H' : Hp), e = .ref a ∧ Inv X pins σ' H' s' ∧ Fly X pins H' s' a C T c .none ∧ (X.A.handled = none → c = .none) ∧ G C σ' H'
noncomputable def PB (X : Cx) (body : List Stmt) (t : TB) : Prop := ∀ (pins : List (Addr × Obj)) (s : Shared) (σ : L2.St) (H : Hp) (D : Ends) (G : Addr → L2.St → Hp → Prop), Inv X pins σ H s → t D G σ H → wpAny (model X.prog X.w) X.A (execs body X.env) (SP X pins D) (BX X pins G) s
noncomputable def tTry (tb : TB) (th : TH) : TS := fun D σ H => tb D (fun C σ' H' => ∀ a, H' a = none → th C a D σ' H') σ H
theorem ps_try {X : Cx} {body : List Stmt} {h₀ : ExceptHandler} {hs : List ExceptHandler} {tb : TB} {th : TH} {pos : Pos} (hx : X.ex = []) (hst : X.stack = X.env :: X.outer) (hf : X.env.frame = some X.env.locals) (hb : PB X body tb) (hh : PH X (h₀ :: hs) th) : PS X (.Try body (h₀ :: hs) [] [] pos) (tTry tb th) := by
  intro pins s σ H D I h
  refine wpAny_Try_except (wpAny_mono (hb pins s σ H D _ I h) (fun f s1 q => ?_) fun e s1 q => ?_)
  · cases f with
    | next => exact (by first | exact wpAny_execs_nil q | (rw [execs]; exact wpAny_pure q) | exact wpAny_pure q)
    | brk => exact q
    | cont => exact q
    | ret u => exact q
  · obtain ⟨a, C, T, c, σ', H', rfl, J, F, hc, q⟩ := q
    refine note_next (by rw [J.ok.frames, hst]) (hst ▸ J.stack) hf F.ex F.tb F.ne fun h1 T1 x1 y1 n1 m1 p1 => flight_none (s := { s1 with heap := h1 }) x1 y1 m1 fun h2 x2 y2 o2 => ?_
    have J1 : Inv X pins σ' H' { s1 with heap := h1 } := Inv.stp J (hst ▸ p1) fun b hb => by
      rcases List.mem_cons.mp hb with z | z
      · rw [z]; exact F.fa
      · rw [List.mem_singleton.mp z]; exact F.fT
    have fT1 : Fre X pins H' T1 := fre_new J n1 (by rw [hx]; simp) (hok_none J.hok n1)
    have p2 : Stp (frs X.stack) [T1] h1 h2 := ⟨fun b o e _ m => (o2 b (by simpa using m)).trans e, fun b o e _ m => ⟨o.slots, (o2 b (by simpa using m)).trans e⟩⟩
    have J2 : Inv X pins σ' H' { s1 with heap := h2 } := Inv.stp (s := { s1 with heap := h1 }) J1 p2 fun b hb => by rw [List.mem_singleton.mp hb]; exact fT1
    exact hh pins _ σ' H' D a C T1 c J2 ⟨x2, y2, m1, F.fa, fT1⟩ hc (q a F.fa.un)
theorem call_b {X : Cx} {x : Str} {k : Nat} {ps : List Str} {sp : Sp} {e : Expr} {es : List Expr} {t : TA} {p pos : Pos} {pins : List (Addr × Obj)} {s : Shared} {σ : L2.St} {H : Hp} {Q : VK} {G : Addr → L2.St → Hp → Prop} (F : Cal X.prog X.w X.K X.mg (CXo X.prog X.w) x k ps sp) (hr : Room k X.A) (hg : Gl X x) (hx : X.ex = [])
    (ha : PA X.nox (e :: es) t) (hdb : (x == ("__debug__" : Str)) = false) (he : starEach (e :: es) X.env = (false, eval e X.env) :: starEach es X.env) (hpl : (backTo pos (starEach es X.env)).any (·.1) = false) (hc : X.calm = true)
    (I : Inv X pins σ H s) (h : t σ H fun vs H1 => sp vs H1 Q fun Cv _ H2 => ∃ C, Cv = .ref C ∧ G C σ H2) : wpAny (model X.prog X.w) X.A (eval (.Call (.Name x p) (e :: es) [] pos) X.env) (EP X pins σ Q) (BX X pins G) s := by
  obtain ⟨f, fd, F, m, kp, b⟩ := F
  refine wpAny_Call_Name_kw (ld_glob I hg m ?_ hdb)
  refine PySem.W.callWith_K (h₀ := X.base) I.ok.mod.kin kp (wpAny_mono (ha pos pins s σ H _ (I.wish _) h) (fun us s1 ⟨vs, H1, I1, r, q⟩ => ⟨I1.unwish.kIn, ?_⟩) fun _ _ z => z.elim) he hpl
  refine run_cal F hr b I1.unwish hc (fun e s' hc => ?_) r q
  obtain ⟨a, C, T, c, H', rfl, J, Fl, hn, C', ec, q⟩ := fly_of I1.unwish hx hc
  cases ec
  exact ⟨a, C, T, c, σ, H', rfl, J, Fl, hn, q⟩
noncomputable def bRet (sp : Sp) (t : TA) : TB := fun D G σ H => t σ H fun vs H1 => sp vs H1 D.rt fun Cv _ H2 => ∃ C, Cv = .ref C ∧ G C σ H2
theorem pb_ret {X : Cx} {x : Str} {k : Nat} {ps : List Str} {sp : Sp} {e : Expr} {es : List Expr} {t : TA} {p pos pos' : Pos} (F : Cal X.prog X.w X.K X.mg (CXo X.prog X.w) x k ps sp) (hr : Room k X.A) (hg : Gl X x) (hx : X.ex = []) (ha : PA X.nox (e :: es) t)
    (hdb : (x == ("__debug__" : Str)) = false := by decide) (he : starEach (e :: es) X.env = (false, eval e X.env) :: starEach es X.env := by rfl) (hpl : (backTo pos (starEach es X.env)).any (·.1) = false := by rfl) (hc : X.calm = true := by rfl) :
    PB X [.Return (some (.Call (.Name x p) (e :: es) [] pos)) pos'] (bRet sp t) := by
  intro pins s σ H D G I h
  exact wpAny_execs_cons (wpAny_Return_some (thn (call_b F hr hg hx ha hdb he hpl hc I h) fun v s1 ⟨y, H1, I1, r1, q1⟩ => ⟨y, σ, H1, I1, r1, q1⟩))
end L3
end
section
namespace L3
open PySem PySem.Spec PyProof.Rows L2
structure ClsK (K : PySem.W.Frag) (C : Addr) : Prop where
  ga : PySem.W.findIn K (.ref C) "__getattribute__" = some (some (.builtin "BaseException.__getattribute__"))
  cl : PySem.W.findIn K (.ref C) "__class__" = some (some (.builtin "object.__class__"))
  gt : PySem.W.findIn K (.ref C) "__getattr__" = some none
  ob : PySem.W.mroIn K C (.type "object") = some true
  be : PySem.W.mroIn K C (.type "BaseException") = some true
  is : (PySem.W.clsIn K C).isSome = true
section
variable {prog : Program} {w : World} {A : Around} {E : Value → Shared → Prop} {h : Heap} {g : Array GenState} {d : Drawn} {t : Nat} {os : OsState} {a C : Addr} {o : Obj} {K : PySem.W.Frag}
theorem class_get_own {R : Result → Shared → Prop} (X : K.In h) (G : ClsK K C) (hx : h.get? a = some o) (hc : o.cls = .ref C) (hq : R (.ok (.ret (.ref C))) ⟨h, g, d, t, os⟩) :
    codeAny (model prog w) A (.call (.builtin "getset_descriptor.__get__") ⟨[.builtin "object.__class__", .ref a, .ref C], []⟩) R ⟨h, g, d, t, os⟩ := by
  have hT5 : (⟨h, g, d, t, os⟩ : Shared).TypeIs (.builtin "object.__class__") "getset_descriptor" := F.typeOf_object_class
  have L : PySem.W.Looks (model prog w) h (isSubtype (.ref C) (.type (".".intercalate ("object.__class__".cutAt '.').dropLast))) true := by
    rw [F.owner_object_class]
    exact PySem.W.looks_mroIn X G.ob
  refine codeAny_call_builtin F.slot_gs_get.plain F.entry_gs_get (F.slot_gs_get.check _ _ _ _ _ _ _ _ hT5 (F.args_gs_get _ _ _) ?_)
  repeat (any_goals (first | assumption | (with_reducible refine wpAny_loadPart_at hx ?_; rw [hc]) | with_reducible refine wpAny_bind (L.at ?_) | with_reducible refine L.at ?_ | wp_step))
  refine ⟨Code.quiet_builtin _ (by decide +kernel), codeAny_builtin F.entry_object_class ?_⟩
  repeat (any_goals (first | assumption | (with_reducible refine wpAny_loadPart_at hx ?_; rw [hc]) | wp_step))
theorem class_entry_own {tk : Tok} {Q : Fin → Shared → Prop} (X : K.In h) (G : ClsK K C) (hx : h.get? a = some o) (hc : o.cls = .ref C) (hq : Q (.done (.ret (.ref C))) ⟨h, g, d, t, os⟩) :
    wpAny (model prog w) A (Builtin.«object.__getattribute__» ⟨[.ref a, .str "__class__" tk], []⟩) Q E ⟨h, g, d, t, os⟩ := by
  have hT5 : (⟨h, g, d, t, os⟩ : Shared).TypeIs (.builtin "object.__class__") "getset_descriptor" := F.typeOf_object_class
  have L := PySem.W.looks_findIn (M := model prog w) X G.cl
  have f5 := F.typeOf_object_class
  have f6 := F.slot_gs_get.lookup
  have f7 := F.slot_gs_set.lookup
  repeat (any_goals (first | assumption | (with_reducible refine wpAny_loadPart_at hx ?_; rw [hc]) | with_reducible refine wpAny_bind (L.at ?_) | with_reducible refine L.at ?_ | wp_step))
  refine class_get_own X G hx hc ?_
  repeat (any_goals (first | assumption | wp_step))
theorem check_ga_own {M : Model} {nameV : Value} {Q : Unit → Shared → Prop} (X : K.In h) (G : ClsK K C) (hx : h.get? a = some o) (hc : o.cls = .ref C) (hq : Q () ⟨h, g, d, t, os⟩) : wpAny M A (checkBuiltinCall "BaseException.__getattribute__" ⟨[.ref a, nameV], []⟩) Q E ⟨h, g, d, t, os⟩ := by
  have hk : builtinKind "BaseException.__getattribute__" = some .slot := by decide +kernel
  have hsplit : splitId "BaseException.__getattribute__" = some ("BaseException", "__getattribute__") := by decide +kernel
  have L := PySem.W.looks_mroIn (M := M) X G.be
  have ha := F.args_bexc_ga (.ref a) nameV
  simp only [checkBuiltinCall, hk, hsplit]
  refine wpAny_bind ?_
  · unfold isInstance
    repeat (first | (with_reducible refine wpAny_loadPart_at hx ?_; rw [hc]) | with_reducible refine wpAny_bind (L.at ?_) | with_reducible refine L.at ?_ | wp_step)
    exact hq
theorem class_call_own {tk : Tok} {R : Result → Shared → Prop} (X : K.In h) (G : ClsK K C) (hx : h.get? a = some o) (hc : o.cls = .ref C) (hq : R (.ok (.ret (.ref C))) ⟨h, g, d, t, os⟩) :
    codeAny (model prog w) A (.call (.builtin "BaseException.__getattribute__") ⟨[.ref a, .str "__class__" tk], []⟩) R ⟨h, g, d, t, os⟩ :=
  codeAny_call_builtin F.excAttr_ValueError.ga.plain F.entry_bexc_ga (check_ga_own X G hx hc (class_entry_own X G hx hc hq))
theorem class_by_own {tk : Tok} {Q : Value → Shared → Prop} (X : K.In h) (G : ClsK K C) (hx : h.get? a = some o) (hc : o.cls = .ref C) (hq : Q (.ref C) ⟨h, g, d, t, os⟩) : wpAny (model prog w) A (getAttrBy (.ref a) (.str "__class__" tk) false) Q E ⟨h, g, d, t, os⟩ := by
  have f3 := F.excAttr_ValueError.ga.bind (.ref a)
  have hx2 : (Value.builtin "BaseException.__getattribute__" == Value.builtin "object.__getattribute__") = false := by decide +kernel
  have hx1 : (onTheHeap (Value.ref C) && Value.builtin "BaseException.__getattribute__" == Value.builtin "object.__getattribute__") = false := by rw [hx2]; rfl
  have L1 := PySem.W.looks_findIn (M := model prog w) X G.ga
  have L2 := PySem.W.looks_findIn (M := model prog w) X G.gt
  repeat (any_goals (first | assumption | (with_reducible refine wpAny_loadPart_at hx ?_; rw [hc]) | with_reducible refine wpAny_bind (L1.at ?_) | with_reducible refine L1.at ?_ | with_reducible refine wpAny_bind (L2.at ?_) | with_reducible refine L2.at ?_ | wp_step))
  refine class_call_own X G hx hc ?_
  repeat (any_goals (first | assumption | wp_step))
theorem class_attr_own {Q : Option Value → Shared → Prop} (X : K.In h) (G : ClsK K C) (hx : h.get? a = some o) (hc : o.cls = .ref C) (hq : Q (some (.ref C)) ⟨h, g, d, t + 1, os⟩) : wpAny (model prog w) A (getAttr? (.ref a) "__class__") Q E ⟨h, g, d, t, os⟩ := by
  unfold getAttr? getAttrBy?
  repeat (any_goals (first | assumption | with_reducible apply class_by_own X G hx hc | wp_step))
theorem kitx_ownexc {K : PySem.W.Frag} {a C : Addr} (G : ClsK K C) : PySem.W.KitX K (.ref a) (.ref C) (fun h => ∃ o, h.get? a = some o ∧ o.cls = .ref C) where
  ty := fun M h X ⟨o, e, c⟩ => by
    have := (PySem.W.Looks.ld (M := M) (part := none) e)
    intro A Q E s k q
    exact (by first | exact wpAny_bind (wpAny_loadPart (k _ _ e) (wpAny_pure (by rw [c]; exact q))) | (unfold typeOf loadHead; exact wpAny_bind (wpAny_loadPart (k _ _ e) (wpAny_pure (by rw [c]; exact q)))) | (unfold typeOf; exact wpAny_bind (wpAny_loadPart (k _ _ e) (wpAny_pure (by rw [c]; exact q)))))
  it := fun M h X _ => by
    have z0 := G.is
    unfold PySem.W.clsIn at z0
    split at z0
    · rename_i c' d' cd' sl' ho
      intro A' Q' E' s' k q
      unfold isType loadHead
      exact wpAny_bind (wpAny_loadPart (k _ _ (X _ _ ho)) (wpAny_pure q))
    · cases z0
  ne := fun h tp dd its n sl X e => by
    have z0 := G.is
    unfold PySem.W.clsIn at z0
    split at z0
    · rename_i c' d' cd' sl' ho
      by_cases z : C = tp
      · have := X _ _ ho
        rw [z, e] at this
        cases this
      · simpa using z
    · cases z0
  ca := fun {prog w A E Q s} X ⟨o, e, c⟩ q => by
    obtain ⟨h, g, d, t, os⟩ := s
    exact class_attr_own X G e c q
end
end L3
end
section
namespace L3
open PySem PySem.Spec PyProof.Rows L2
section
variable {X : Cx} {pins : List (Addr × Obj)} {σ : L2.St} {H : Hp} {s : Shared} {a : Addr} {D : List (Str × V)} {k : Str} {tk : Tok} {A : Around} {E : Value → Shared → Prop}
theorem tab_get1 {Q : Value → Shared → Prop} (T : TabK X.K a D) (I : Inv X pins σ H s) (h : ∀ w', RelV ((KTD.datumAt k D).getD .non) w' → Q w' { s with toks := s.toks + 1 }) : wpAny (model X.prog X.w) A (call (.builtin "dict.get") [.ref a, .str k tk]) Q E s := by
  have ty := T.typeIs I
  refine wpAny_call_entry PySem.F.slot_dict_get ty PySem.F.entry_dict_get ?_ (PySem.F.args_dict_get_2 _ _)
  show wpAny (model X.prog X.w) _ (dictGet a (.str k tk) >>= _) _ _ s
  refine wpAny_bind (tab_get T I (fun v u e r => ?_) fun hn => ?_)
  · have h := h u (by rw [e]; exact r)
    exact wpAny_pure ⟨u, rfl, h⟩
  · have h := h .none (by rw [hn]; exact rfl)
    refine wpAny_bind ?_
    unfold Builtin.Dict.missed
    rw [T.sys]
    simp only [Bool.false_eq_true, if_false]
    exact wpAny_pure (wpAny_pure ⟨_, rfl, h⟩)
end
noncomputable def tTGet1 (K : PySem.W.Frag) (td ty : TE) : TE := fun σ H Q => td σ H fun x H1 => ∃ a D, x = .ref a ∧ TabK K a D ∧ ty σ H1 fun y H2 => ∃ k, y = .str k ∧ Q ((KTD.datumAt k D).getD .non) H2
theorem pe_tget1 {X : Cx} {o e : Expr} {apos cpos : Pos} {td ty : TE} (ho : PE X o td) (he : PE X e ty) (m : M1 X o "get" apos e cpos) : PE X (.Call (.Attribute o "get" apos) [e] [] cpos) (tTGet1 X.K td ty) := by
  intro pins s σ H Q I h
  refine wpAny_Call_method m.base m.few m.line PySem.F.plainAttrs_dict PySem.F.slot_dict_get PySem.F.type_dict_get (thn (ho pins s σ H _ I h) fun u s1 ⟨x, H1, I1, rx, a, D, ex, T, q1⟩ => ?_)
  subst ex
  obtain rfl : u = Value.ref a := rx
  have t1 := T.typeIs I1
  refine ⟨t1, fun b q => ?_, ?_⟩
  · cases q
    obtain ⟨o, _, _, e, x, _⟩ := T.ex
    exact ⟨o, I1.kIn a o e, x.2.1⟩
  rw [m.trees]
  refine Calls.callWith_builtin rfl (Calls.evalArgs_plain (Calls.spliced_cons (thn (he pins s1 σ H1 _ I1 q1) fun iv s2 ⟨y, H2, I2, ry, k, ey, q2⟩ => Calls.spliced_nil ?_)))
  subst ey
  obtain ⟨t, rfl⟩ := ry
  exact tab_get1 T I2 fun w' r => ⟨_, H2, I2.tok _, r, q2⟩
theorem bt_ValueError : bootBuiltins "ValueError" = some (.type "ValueError") := by decide +kernel
structure ERec (a e it : Addr) (i : Nat) (h : Heap) : Prop where
  e : ∃ old, IsEnum h e it i old
  it : h.IsListIter it a i
end L3
end
section
namespace L3
open PySem PySem.Spec PyProof.Rows L2
theorem cxK {CX : CXT} {P : Program} {w : World} {K : PySem.W.Frag} {mg : Str → Option Value} {base : Heap} {N : List Str} {qual : Str} {scope : Scope} {f : Addr} {cd : Value} {A : Around} {outer : List Env} {s : Shared} {H : Hp} {E : XK} : (cxOf CX P w K mg base N qual scope f cd A outer s H E).nox.K = K := rfl
end L3
end
section
namespace L3
open PySem L2
theorem let2 {t1 t2 : TS} {D : Ends} {σ : L2.St} {H : Hp} (h : let D0 : Ends := D; let v2 : TS := t2; tSeq t1 v2 D0 σ H) : (tSeq t1 (t2)) D σ H := h
theorem let3 {t1 t2 t3 : TS} {D : Ends} {σ : L2.St} {H : Hp} (h : let D0 : Ends := D; let v3 : TS := t3; let v2 : TS := tSeq t2 v3; tSeq t1 v2 D0 σ H) : (tSeq t1 (tSeq t2 (t3))) D σ H := h
theorem let4 {t1 t2 t3 t4 : TS} {D : Ends} {σ : L2.St} {H : Hp} (h : let D0 : Ends := D; let v4 : TS := t4; let v3 : TS := tSeq t3 v4; let v2 : TS := tSeq t2 v3; tSeq t1 v2 D0 σ H) : (tSeq t1 (tSeq t2 (tSeq t3 (t4)))) D σ H := h
theorem let11 {t1 t2 t3 t4 t5 t6 t7 t8 t9 t10 t11 : TS} {D : Ends} {σ : L2.St} {H : Hp} (h : let D0 : Ends := D; let v11 : TS := t11; let v10 : TS := tSeq t10 v11; let v9 : TS := tSeq t9 v10; let v8 : TS := tSeq t8 v9; let v7 : TS := tSeq t7 v8; let v6 : TS := tSeq t6 v7; let v5 : TS := tSeq t5 v6; let v4 : TS := tSeq t4 v5; let v3 : TS := tSeq t3 v4; let v2 : TS := tSeq t2 v3; tSeq t1 v2 D0 σ H) : (tSeq t1 (tSeq t2 (tSeq t3 (tSeq t4 (tSeq t5 (tSeq t6 (tSeq t7 (tSeq t8 (tSeq t9 (tSeq t10 (t11))))))))))) D σ H := h
end L3
namespace KM
theorem q1 {x : PySem.Str} {a : D} {k n : Nat} (h : depth a + (k + 1) ≤ n) : depth (.tup [.str x, a]) + k ≤ n := by simp only [depth, depthL]; omega
theorem q2 {x : PySem.Str} {a b : D} {k n : Nat} (h1 : depth a + (k + 1) ≤ n) (h2 : depth b + (k + 1) ≤ n) : depth (.tup [.str x, a, b]) + k ≤ n := by simp only [depth, depthL]; omega
theorem q3 {x : PySem.Str} {a b c : D} {k n : Nat} (h1 : depth a + (k + 1) ≤ n) (h2 : depth b + (k + 1) ≤ n) (h3 : depth c + (k + 1) ≤ n) : depth (.tup [.str x, a, b, c]) + k ≤ n := by simp only [depth, depthL]; omega
theorem q4 {x : PySem.Str} {a b c d : D} {k n : Nat} (h1 : depth a + (k + 1) ≤ n) (h2 : depth b + (k + 1) ≤ n) (h3 : depth c + (k + 1) ≤ n) (h4 : depth d + (k + 1) ≤ n) : depth (.tup [.str x, a, b, c, d]) + k ≤ n := by simp only [depth, depthL]; omega
end KM
namespace L3
open PySem L2
theorem by0 {P : List Value → Prop} (h : P []) : ∀ us : List Value, us.length = 0 → P us := fun us e => by rw [List.length_eq_zero_iff.mp e]; exact h
theorem byS {P : List Value → Prop} {n : Nat} (h : ∀ a us, us.length = n → P (a :: us)) : ∀ us : List Value, us.length = n + 1 → P us
  | [], e => nomatch e
  | a :: us, e => h a us (Nat.succ.inj e)
theorem by1 {P : List Value → Prop} (h : ∀ a, P [a]) : ∀ us : List Value, us.length = 1 → P us := byS fun a => by0 (h a)
theorem by2 {P : List Value → Prop} (h : ∀ a b, P [a, b]) : ∀ us : List Value, us.length = 2 → P us := byS fun a => by1 (h a)
theorem by3 {P : List Value → Prop} (h : ∀ a b c, P [a, b, c]) : ∀ us : List Value, us.length = 3 → P us := byS fun a => by2 (h a)
end L3
end
section
namespace K40
open PySem L2 L3 KM
noncomputable def top (i : Nat) : Stmt := PySem.Challenge.pw_keeper_k40_variables.main.body.getD i (.Pass ⟨0, 0, 0, 0⟩)
noncomputable abbrev s_is_number : Stmt := top 23
noncomputable abbrev s_is_vast : Stmt := top 24
noncomputable abbrev s_kids_of : Stmt := top 25
noncomputable abbrev s_binds_of : Stmt := top 26
noncomputable abbrev s_top_variable : Stmt := top 27
noncomputable abbrev s_bounded : Stmt := top 28
noncomputable abbrev s_rebuilt : Stmt := top 29
noncomputable abbrev s_with_free : Stmt := top 31
noncomputable abbrev s_raised : Stmt := top 32
noncomputable abbrev s_lifted : Stmt := top 33
noncomputable abbrev s_kind_at : Stmt := top 35
noncomputable abbrev s_law_cell_at : Stmt := top 37
noncomputable abbrev s_law_context : Stmt := top 38
noncomputable abbrev s_law_word_of : Stmt := top 40
noncomputable abbrev s_law_answer : Stmt := top 41
noncomputable abbrev s_law_lifted : Stmt := top 42
noncomputable abbrev s_law : Stmt := top 43
structure Adr where
  none_ : Unit := ()
  KIDS_DUE : Addr
  BINDER_OVER : Addr
  KeeperError : Addr
  Great : Addr
  NoPlace : Addr
  NoStep : Addr
  Dry : Addr
  NoVariable : Addr
  NoName : Addr
  NotAll : Addr
  NotSome : Addr
  NotSame : Addr
  Unlike : Addr
  NoText : Addr
  NoWord : Addr
  TwiceTold : Addr
  NotClosed : Addr
structure Mg (mg : Str → Option Value) (t : Adr) : Prop where
  n_ValueError : mg "ValueError" = none
  n_bool : mg "bool" = none
  n_int : mg "int" = none
  n_isinstance : mg "isinstance" = none
  n_len : mg "len" = none
  n_list : mg "list" = none
  n_max : mg "max" = none
  n_range : mg "range" = none
  n_tuple : mg "tuple" = none
  n_zip : mg "zip" = none
  g_MOST_KNOTS : ∃ tk, mg "MOST_KNOTS" = some (.int 600 tk)
  g_MOST_DEEP : ∃ tk, mg "MOST_DEEP" = some (.int 40 tk)
  g_MOST_VARIABLE : ∃ tk, mg "MOST_VARIABLE" = some (.int 99 tk)
  g_KIDS_DUE : mg "KIDS_DUE" = some (.ref t.KIDS_DUE)
  g_BINDER_OVER : mg "BINDER_OVER" = some (.ref t.BINDER_OVER)
  g_KeeperError : mg "KeeperError" = some (.ref t.KeeperError)
  g_Great : mg "Great" = some (.ref t.Great)
  g_NoPlace : mg "NoPlace" = some (.ref t.NoPlace)
  g_NoStep : mg "NoStep" = some (.ref t.NoStep)
  g_Dry : mg "Dry" = some (.ref t.Dry)
  g_NoVariable : mg "NoVariable" = some (.ref t.NoVariable)
  g_NoName : mg "NoName" = some (.ref t.NoName)
  g_NotAll : mg "NotAll" = some (.ref t.NotAll)
  g_NotSome : mg "NotSome" = some (.ref t.NotSome)
  g_NotSame : mg "NotSame" = some (.ref t.NotSame)
  g_Unlike : mg "Unlike" = some (.ref t.Unlike)
  g_NoText : mg "NoText" = some (.ref t.NoText)
  g_NoWord : mg "NoWord" = some (.ref t.NoWord)
  g_TwiceTold : mg "TwiceTold" = some (.ref t.TwiceTold)
  g_NotClosed : mg "NotClosed" = some (.ref t.NotClosed)
seal L2.PE L2.PS L2.PSs L2.PT L2.PW L2.PA L2.PG L2.PGs L2.PI L2.PC L2.PO L2.PPs L2.PK L3.PIf
variable {P : Program} {w : World} {K : PySem.W.Frag} {mg : Str → Option Value} {base : Heap} {f : Addr} {fd : FuncData}
noncomputable def cellN (ns : List Int) (k : Nat) : Int := (ns[k]?).getD 0
noncomputable def spCell (K : PySem.W.Frag) : Sp := fun vs H Q _ => ∃ (a : Addr) (ns : List Int) (k : Nat), vs = [.ref a, .int k] ∧ SqL K H a (ns.map V.int) ∧ Q (.int (cellN ns k)) H
theorem scCell : FnScope ["_law_script", "_law_k"] ["_law_script", "_law_k"] (defScope s_law_cell_at) := ⟨rfl, rfl, rfl, by decide +kernel, rfl, by decide +kernel, by decide +kernel⟩
theorem ok_cell (F : Fun K "_law_cell_at" "_law_cell_at" s_law_cell_at f fd) (ml : mg "len" = none) : FnOk P w K mg base CX0 1 f fd ["_law_script", "_law_k"] (spCell K) := by
  refine F.ok scCell (fun vs H Q E h => ?_) (fun cdv A outer s H vs Q E hr h => ?_)
  · obtain ⟨a, ns, k, rfl, _⟩ := h
    rfl
  obtain ⟨a, ns, k, rfl, hS, q⟩ := h
  refine ⟨_, pss_cons (ps_if (pt_cmpR op_lt (pv 1) (pe_callB call_len_seq rfl ml PySem.boot_len (pa_cons (pv 0) pa_nil)) (nomark _)) (pss_one (ps_ret (pe_ix ix_list (pv 0) (pv 1) (fun _ _ => rfl)))) pss_nil) (pss_one (ps_ret pe_int)), ?_⟩
  refine ⟨_, rfl, _, rfl, a, _, rfl, .inl hS, _, _, rfl, rfl, _, rfl, ?_⟩
  have hl : (ns.map V.int).length = ns.length := List.length_map _
  refine ite2 (fun c => ?_) (fun c => ?_)
  · have c' : (k : Int) < (((ns.map V.int).length : Nat) : Int) := of_decide_eq_true c
    have hk : k < ns.length := by rw [hl] at c'; omega
    have e : cellN ns k = ns[k] := by unfold cellN; simp [hk]
    rw [e] at q
    exact ⟨_, rfl, _, rfl, a, _, _, _, rfl, rfl, hS, atI_nat (by rw [List.getElem?_map, List.getElem?_eq_getElem hk] <;> rfl), q⟩
  · have c' : ¬ (k : Int) < (((ns.map V.int).length : Nat) : Int) := of_decide_eq_false (Bool.eq_false_iff.mpr c)
    have hk : ns.length ≤ k := by rw [hl] at c'; omega
    have e : cellN ns k = 0 := by unfold cellN; rw [List.getElem?_eq_none hk]; rfl
    rw [e] at q
    exact q
variable {P : Program} {w : World} {K : PySem.W.Frag} {mg : Str → Option Value} {base : Heap} {f : Addr} {fd : FuncData}
noncomputable def tab1 : List (Key × V) := [(.inr "nat", .str ""), (.inr "none", .str ""), (.inr "zero", .str ""), (.inr "all", .str "kk"), (.inr "some", .str "kk"), (.inr "same", .str "ktt"), (.inr "fun", .str "kt"), (.inr "app", .str "tt")]
noncomputable def tab2 : List (Key × V) := [(.inr "next", .str "t"), (.inr "rec", .str "kttt"), (.inr "like", .str "kt"), (.inr "carry", .str "ktt"), (.inr "never", .str "kt"), (.inr "pair", .str "ktt"), (.inr "first", .str "t")]
noncomputable def tab3 : List (Key × V) := [(.inr "second", .str "t"), (.inr "var", .str "n"), (.inr "name", .str "w")]
noncomputable def shapeV (x : Str) : V := match valV tab1 (Sum.inr x : Key) with
  | some v => v
  | none => match valV tab2 (Sum.inr x : Key) with
    | some v => v
    | none => (valV tab3 (Sum.inr x : Key)).getD .non
noncomputable def kindW (w : Str) : Bool := inV (.str w) [.str "nat", .str "none", .str "all", .str "some", .str "same"]
noncomputable def numD : D → Bool
  | .int i => decide (0 ≤ i)
  | _ => false
mutual
noncomputable def wfG (nm : D → Bool) (k : Bool) : D → Bool
  | .tup (.str w :: ps) => match shapeV w with
    | .str s => (kindW w == k) && wfL nm s.cps.toList ps
    | _ => false
  | _ => false
noncomputable def wfL (nm : D → Bool) : List Nat → List D → Bool
  | [], [] => true
  | c :: cs, p :: ps => (if c = 107 then wfG nm true p else if c = 116 then wfG nm false p else if c = 110 then numD p else nm p) && wfL nm cs ps
  | _, _ => false
end
noncomputable def dueB (nm : D → Bool) (c : Nat) (p : D) : Bool := if c = 107 then wfG nm true p else if c = 116 then wfG nm false p else if c = 110 then numD p else nm p
theorem wfL_cons (nm : D → Bool) (c : Nat) (cs : List Nat) (p : D) (ps : List D) : wfL nm (c :: cs) (p :: ps) = (dueB nm c p && wfL nm cs ps) := by rw [wfL]; rfl
theorem wfG_mk {nm : D → Bool} {k : Bool} {w s : Str} {ps : List D} (h1 : shapeV w = .str s) (h2 : kindW w = k) (h3 : wfL nm s.cps.toList ps = true) : wfG nm k (.tup (.str w :: ps)) = true := by
  rw [wfG, h1]
  simp [h2, h3]
theorem shape_var : shapeV "var" = .str "n" := by decide +kernel
theorem shape_name : shapeV "name" = .str "w" := by decide +kernel
theorem kind_var : kindW "var" = false := by decide +kernel
theorem len_n : (Str.ofString "n").cps.toList = [110] := by decide +kernel
theorem len_w : (Str.ofString "w").cps.toList = [119] := by decide +kernel
variable {P : Program} {w : World} {K : PySem.W.Frag} {mg : Str → Option Value} {base : Heap} {f fN fM fS : Addr} {fd fdN fdM fdS : FuncData}
noncomputable def w0 (k : Bool) : Str := if k then "nat" else "var"
variable {t : Adr}
end K40
end
section
set_option maxHeartbeats 1000000
namespace K40
open PySem L2 L3 KM
seal L2.PE L2.PS L2.PSs L2.PT L2.PW L2.PA L2.PG L2.PGs L2.PI L2.PC L2.PO L2.PPs L2.PK L3.PIf
variable {P : Program} {w : World} {K : PySem.W.Frag} {mg : Str → Option Value} {base : Heap} {t : Adr}
noncomputable def rows18 : List (Str × List V) := [("nat", []), ("none", []), ("all", [.str "kind", .str "kind"]), ("some", [.str "kind", .str "kind"]), ("same", [.str "kind", .str "term", .str "term"]), ("var", []), ("fun", [.str "kind", .str "term"]),
  ("app", [.str "term", .str "term"]), ("zero", []), ("next", [.str "term"]), ("rec", [.str "kind", .str "term", .str "term", .str "term"]), ("like", [.str "kind", .str "term"]), ("carry", [.str "kind", .str "term", .str "term"]),
  ("never", [.str "kind", .str "term"]), ("pair", [.str "kind", .str "term", .str "term"]), ("first", [.str "term"]), ("second", [.str "term"]), ("name", [])]
noncomputable def cDue (c : Nat) : V := if c = 107 then .str "kind" else .str "term"
noncomputable def rowOk (r : Str × List V) : Bool := match shapeV r.1 with
  | .str s => decide (s.cps.size ≤ 4) && if r.1 = "var" then decide (s = "n") else if r.1 = "name" then decide (s = "w") else s.cps.toList.all (fun c => c == 107 || c == 116) && decide (r.2 = s.cps.toList.map cDue)
  | _ => false
theorem rows_ok : rows18.all rowOk = true := by decide +kernel
theorem lookup_mem {α : Type} {x : Str} {v : α} : ∀ {l : List (Str × α)}, l.lookup x = some v → (x, v) ∈ l
  | [], h => by simp at h
  | (k, u) :: l, h => by
    rw [List.lookup_cons] at h
    cases e : x == k with
    | true =>
      rw [e] at h
      obtain rfl : x = k := by simpa using e
      cases h
      exact List.mem_cons_self
    | false => rw [e] at h; exact List.mem_cons_of_mem _ (lookup_mem h)
theorem lookup_none {α : Type} {x : Str} : ∀ {l : List (Str × α)}, l.lookup x = none → x ∉ l.map (·.1)
  | [], _ => by simp
  | (k, u) :: l, h => by
    rw [List.lookup_cons] at h
    cases e : x == k with
    | true => rw [e] at h; cases h
    | false =>
      rw [e] at h
      have := lookup_none h
      have e : ¬ x = k := by simpa using e
      simp only [List.map_cons, List.mem_cons, not_or]
      exact ⟨e, this⟩
inductive Shp (w : Str) : Prop where
  | non (h1 : rows18.lookup w = none) (h2 : shapeV w = .non)
  | var (h1 : rows18.lookup w = some []) (h2 : w = "var")
  | name (h1 : rows18.lookup w = some []) (h2 : w = "name")
  | form (s : Str) (h1 : rows18.lookup w = some (s.cps.toList.map cDue)) (h2 : shapeV w = .str s) (h3 : w ≠ "var") (h4 : w ≠ "name") (h5 : ∀ c ∈ s.cps.toList, c = 107 ∨ c = 116) (h6 : s.cps.size ≤ 4)
theorem keyNone {tab : List (Key × V)} {w : Str} (h : ∀ k ∈ tab.map (·.1), k ≠ Sum.inr w) : valV tab (Sum.inr w : Key) = none := by
  cases e : valV tab (Sum.inr w : Key) with
  | none => rfl
  | some v =>
    exact absurd rfl (h _ (valV_in e))
noncomputable def keyIn (k : Key) (l : List Str) : Bool := match k with
  | .inr x => decide (x ∈ l)
  | .inl _ => true
theorem shp (w : Str) : Shp w := by
  cases h : rows18.lookup w with
  | none =>
    refine .non h ?_
    have nm := lookup_none h
    have sub : ∀ tab : List (Key × V), (tab.map (·.1)).all (fun k => keyIn k (rows18.map (·.1))) = true → valV tab (Sum.inr w : Key) = none := fun tab ht => keyNone fun k hk z => by
      subst z
      have := List.all_eq_true.mp ht _ hk
      simp only [keyIn, decide_eq_true_eq] at this
      exact nm this
    have e1 := sub tab1 (by decide +kernel)
    have e2 := sub tab2 (by decide +kernel)
    have e3 := sub tab3 (by decide +kernel)
    unfold shapeV
    rw [e1, e2, e3]
    rfl
  | some ds =>
    have m := lookup_mem h
    have g := List.all_eq_true.mp rows_ok _ m
    unfold rowOk at g
    by_cases hv : w = "var"
    · subst hv
      exact .var (by decide +kernel) rfl
    · by_cases hn : w = "name"
      · subst hn
        exact .name (by decide +kernel) rfl
      · cases e : shapeV w with
        | str s =>
          rw [e] at g
          simp only [hv, hn, if_false, Bool.and_eq_true, List.all_eq_true, Bool.or_eq_true, beq_iff_eq, decide_eq_true_eq] at g
          obtain ⟨g1, g2, g3⟩ := g
          exact .form s (by rw [h, g3]) e hv hn g2 g1
        | _ => rw [e] at g; simp at g
end K40
end
section
set_option maxHeartbeats 1000000
namespace K40
open PySem L2 L3 KM
seal L2.PE L2.PS L2.PSs L2.PT L2.PW L2.PA L2.PG L2.PGs L2.PI L2.PC L2.PO L2.PPs L2.PK L3.PIf
variable {P : Program} {w : World} {K : PySem.W.Frag} {mg : Str → Option Value} {base : Heap} {t : Adr}
noncomputable def leafW (x : Str) : Bool := decide (x = "var") || decide (x = "name")
noncomputable def kidsD (x : Str) (ps : List D) : List D := if leafW x = true then [] else ps
noncomputable def spKids : Sp := fun vs H Q _ => ∃ (x : Str) (ps : List D) (v : V), vs = [v] ∧ Rep H (.tup (.str x :: ps)) v ∧ ps.length ≤ 10 ∧ ∀ (a : Addr) (us : List V) (H' : Hp), H a = none → Same H H' → H' a = some (.lst us) → Reps H' (kidsD x ps) us → Q (.ref a) H'
theorem sc_kids_of : FnScope ["thing"] ["thing"] (defScope s_kids_of) := ⟨rfl, rfl, rfl, by decide +kernel, rfl, by decide +kernel, by decide +kernel⟩
theorem c_kids_of (D : Df K mg "kids_of" s_kids_of ["thing"]) (M : Mg mg t) : Cal P w K mg CX0 "kids_of" (1) ["thing"] spKids := by
  refine D.ok sc_kids_of (fun vs H Q E h => ?_) (fun base f cdv A outer s H vs Q E hr h => ?_)
  · obtain ⟨x, ps, v, rfl, _⟩ := h
    rfl
  obtain ⟨x, ps, v, rfl, r, hl, q⟩ := h
  obtain ⟨a, us, rfl, ha, v0, us, rfl, ⟨rfl, hx⟩, rp⟩ := r
  have hlu := rp.length
  have ea : atI (V.str x :: us) 0 = some (.str x) := atI_nat (j := 0) rfl
  have hT : SqT K H a (.str x :: us) := SqT.of ha
  refine ⟨_, (pss_cons (ps_if (L2.PW.pt (pw_or (pt_cmpR op_eq (pe_ix ix_tup (pv 0) pe_int (fun _ _ => rfl)) pe_str (nomark _)) (pw_or1 (pt_cmpR op_eq (pe_ix ix_tup (pv 0) pe_int (fun _ _ => rfl)) pe_str (nomark _))))) (pss_one (ps_ret (pe_lst pa_nil))) pss_nil)
      (pss_one (ps_ret (pe_callTy call_list_of rfl M.n_list bt_list (pa_cons (pe_slice sl_tupW (pv 0) (po_some pe_int) po_none) pa_nil))))), ?_⟩
  try dsimp only [cxK, cxK2]
  refine let2 ?_
  intro _ _
  have leaf : leafW x = true → 0 ≤ sizeLine ∧ ∀ p, H p = none → Q (.ref p) (upd H p (.lst [])) := fun c => ⟨Nat.zero_le _, fun p hp => q p [] _ hp (same_new hp _) upd_same (by unfold kidsD; rw [if_pos c]; exact rfl)⟩
  refine ⟨_, rfl, a, _, _, _, rfl, rfl, hT, ea, rfl, _, rfl, ?_⟩
  refine ite2 (fun c => ?_) (fun c => ?_)
  · refine iteT ?_
    have c : V.str x = V.str "var" := of_decide_eq_true c
    cases c
    exact leaf rfl
  refine ⟨_, rfl, a, _, _, _, rfl, rfl, hT, ea, rfl, _, rfl, ?_⟩
  refine ite2 (fun c2 => ?_) (fun c2 => ?_)
  · have c2 : V.str x = V.str "name" := of_decide_eq_true c2
    cases c2
    exact leaf (by decide +kernel)
  have nl : leafW x = false := by
    unfold leafW
    have h1 : x ≠ "var" := fun z => c (by rw [z]; decide +kernel)
    have h2 : x ≠ "name" := fun z => c2 (by rw [z]; decide +kernel)
    simp [h1, h2]
  have nk : kidsD x ps = ps := by unfold kidsD; rw [nl]; rfl
  rw [nk] at q
  have ec : cutV (V.str x :: us) (some 1) none = us := by
    have := cutV_from (V.str x :: us) 1
    simpa using this
  refine ⟨_, rfl, _, rfl, a, _, rfl, hT, fun p hp => ?_, fun z => ?_⟩
  · rw [ec]
    refine ⟨p, us, rfl, .inr (SqT.of upd_same), fun l hl => ?_⟩
    exact q l us _ ((same_new hp _).free hl) ((same_new hp _).trans (same_new hl _)) upd_same (rp.mono ((same_new hp _).trans (same_new hl _)))
  · rw [ec] at z
    exact absurd (congrArg List.length z) (by simp)
theorem wfL_len {nm : D → Bool} : ∀ {cs : List Nat} {ps : List D}, wfL nm cs ps = true → cs.length = ps.length
  | [], [], _ => rfl
  | [], _ :: _, h => by simp [wfL] at h
  | _ :: _, [], h => by simp [wfL] at h
  | c :: cs, p :: ps, h => by
    rw [wfL_cons, Bool.and_eq_true] at h
    rw [List.length_cons, List.length_cons, wfL_len h.2]
noncomputable def ktB (c : Nat) : Bool := !(Builtin.Str.occurrences (Str.ofString "kt") ⟨#[c]⟩ 0 (Str.ofString "kt").length 1).isEmpty
theorem kt1 : ktB 107 = true := by decide +kernel
theorem kt2 : ktB 116 = true := by decide +kernel
theorem kt3 : ktB 110 = false := by decide +kernel
theorem kt4 : ktB 119 = false := by decide +kernel
theorem wf_shape {nm : D → Bool} {k : Bool} {x : Str} {ps : List D} (h : wfG nm k (.tup (.str x :: ps)) = true) : ∃ s, shapeV x = .str s ∧ kindW x = k ∧ wfL nm s.cps.toList ps = true ∧ s.cps.size ≤ 4 ∧ s.cps.toList.length = ps.length ∧ (∀ c ∈ s.cps.toList, ktB c = !leafW x) ∧
    (leafW x = false → ∀ c ∈ s.cps.toList, c = 107 ∨ c = 116) ∧ ∃ r, rows18.lookup x = some r ∧ r.length = (kidsD x ps).length := by
  have key : ∀ s, shapeV x = .str s → kindW x = k ∧ wfL nm s.cps.toList ps = true := fun s e => by
    rw [wfG, e, Bool.and_eq_true] at h
    exact ⟨by simpa using h.1, h.2⟩
  cases shp x with
  | non h1 h2 => rw [wfG, h2] at h; simp at h
  | var h1 h2 =>
    subst h2
    obtain ⟨k1, k2⟩ := key _ shape_var
    refine ⟨_, shape_var, k1, k2, by decide, wfL_len k2, fun c hc => ?_, fun z => absurd z (by decide +kernel), _, h1, by unfold kidsD; rw [if_pos (by decide +kernel)]; rfl⟩
    rw [len_n] at hc
    rw [List.mem_singleton.mp hc, kt3]
    decide +kernel
  | name h1 h2 =>
    subst h2
    obtain ⟨k1, k2⟩ := key _ shape_name
    refine ⟨_, shape_name, k1, k2, by decide, wfL_len k2, fun c hc => ?_, fun z => absurd z (by decide +kernel), _, h1, by unfold kidsD; rw [if_pos (by decide +kernel)]; rfl⟩
    rw [len_w] at hc
    rw [List.mem_singleton.mp hc, kt4]
    decide +kernel
  | form s h1 h2 h3 h4 h5 h6 =>
    obtain ⟨k1, k2⟩ := key s h2
    have nl : leafW x = false := by unfold leafW; simp [h3, h4]
    refine ⟨s, h2, k1, k2, h6, wfL_len k2, fun c hc => ?_, fun _ => h5, _, h1, ?_⟩
    · rw [nl]
      rcases h5 c hc with z | z <;> rw [z]
      · exact kt1
      · exact kt2
    · unfold kidsD
      rw [nl, List.length_map, wfL_len k2]
      rfl
end K40
end
section
set_option maxHeartbeats 1000000
namespace K40
open PySem L2 L3 KM PyProof.Rows
seal L2.PE L2.PS L2.PSs L2.PT L2.PW L2.PA L2.PG L2.PGs L2.PI L2.PC L2.PO L2.PPs L2.PK L3.PIf
variable {P : Program} {w : World} {K : PySem.W.Frag} {mg : Str → Option Value} {base : Heap} {t : Adr}
noncomputable def BO : List (Str × V) := [("all", .int 1), ("some", .int 1), ("fun", .int 1), ("rec", .int 0), ("carry", .int 0)]
noncomputable def overV (x : Str) : V := (KTD.datumAt x BO).getD .non
noncomputable def bindV (x : Str) (i : Nat) : V := if decide (V.int i = overV x) = true then .int 1 else .int 0
noncomputable def bindsV (x : Str) (n : Nat) : List V := (List.range n).map (bindV x)
noncomputable def spBinds : Sp := fun vs H Q _ => ∃ (x : Str) (ps : List D) (v : V) (k : Bool), vs = [v] ∧ Rep H (.tup (.str x :: ps)) v ∧ wfG isStrD k (.tup (.str x :: ps)) = true ∧ ∀ (a : Addr) (H' : Hp), Same H H' → H' a = some (.lst (bindsV x (kidsD x ps).length)) → Q (.ref a) H'
theorem over_scal (x : Str) (i : Int) : scal (.int i) (overV x) = true := by
  unfold overV
  cases e : KTD.datumAt x BO with
  | none => rfl
  | some v =>
    have : v = .int 1 ∨ v = .int 0 := by
      simp only [KTD.datumAt, BO] at e
      repeat' split at e
      all_goals first | (cases e; exact .inl rfl) | (cases e; exact .inr rfl) | cases e
    rcases this with z | z <;> rw [z] <;> rfl
theorem sc_binds_of : FnScope ["thing", "over"] ["thing"] (defScope s_binds_of) := ⟨rfl, rfl, rfl, by decide +kernel, rfl, by decide +kernel, by decide +kernel⟩
theorem c_binds_of (D : Df K mg "binds_of" s_binds_of ["thing"]) (M : Mg mg t) {as : List Addr} (T : KD K t.KIDS_DUE rows18 as) (B : TabK K t.BINDER_OVER BO) : Cal P w K mg CX0 "binds_of" (1) ["thing"] spBinds := by
  refine D.ok sc_binds_of (fun vs H Q E h => ?_) (fun base f cdv A outer s H vs Q E hr h => ?_)
  · obtain ⟨x, ps, v, k, rfl, _⟩ := h
    rfl
  obtain ⟨x, ps, v, k, rfl, r, wf, q⟩ := h
  obtain ⟨a, us, rfl, ha, v0, us, rfl, ⟨rfl, hx⟩, rp⟩ := r
  have hlu := rp.length
  have ea : atI (V.str x :: us) 0 = some (.str x) := atI_nat (j := 0) rfl
  have hT : SqT K H a (.str x :: us) := SqT.of ha
  obtain ⟨sh, hsh, hk, hwf, h4, hlen, hkt, _, rw', hrw, hrl⟩ := wf_shape wf
  obtain ⟨b, hb1, hb2⟩ := T.some hrw
  have hn : (kidsD x ps).length ≤ 4 := by
    unfold kidsD
    split
    · exact Nat.zero_le _
    · rw [← hlen]; simpa using h4
  refine ⟨_, (pss_cons (ps_set (i := 1) sc_binds_of.nd rfl (by first | exact Or.inl rfl | exact Or.inr rfl) (pe_tget1 (pe_gref M.g_BINDER_OVER rfl) (pe_ix ix_tup (pv 0) pe_int (fun _ _ => rfl)) ⟨rfl, rfl, rfl, rfl⟩))
      (pss_one (ps_ret (pe_comp (N' := ["number", "over"]) (own := 1) (fr := [1]) rfl (blk_of (N := ["thing", "over"]) (sc := defScope s_binds_of) rfl rfl rfl (by decide +kernel)) (pi_range1 rfl M.n_range (pa_cons (pe_callB call_len_seq rfl M.n_len bt_len (pa_cons (pe_tab (pe_gref M.g_KIDS_DUE rfl) (pe_ix ix_tup (pv 0) pe_int (fun _ _ => rfl)) (fun _ _ => rfl)) pa_nil)) pa_nil)) (own_name (by decide)) (fun _ _ _ => (pg_name (i := 0) (show List.Nodup (["number", "over"] : List Str) by decide +kernel) rfl (Or.inl rfl))) (fun _ _ _ => pif_nil) (fun _ _ _ => (pe_ifExp (pt_cmpR op_eq (pv 0) (pv 1) (nomark _)) pe_int pe_int)))))), ?_⟩
  try dsimp only [cxK, cxK2]
  refine let2 ?_
  intro _ _
  refine ⟨_, _, rfl, B, _, rfl, a, _, _, _, rfl, rfl, hT, ea, x, rfl, ?_⟩
  refine ⟨_, rfl, a, _, _, _, rfl, rfl, hT, ea, _, _, x, _, rfl, rfl, T.tab, hb1, b, _, rfl, .inr (hb2 H), _, rfl, (by show -(2 ^ 62) ≤ ((rw'.length : Nat) : Int); omega), (by show ((rw'.length : Nat) : Int) < 2 ^ 62; omega), fun p hp => comp_vals rw'.length (bindV x) hp (by rw [hrl]; exact Nat.le_trans hn (by decide)) (fun i H2 hi s2 => ⟨hi, ?_⟩) fun H2 s2 h2 => ⟨Nat.le_refl _, ?_⟩⟩
  · rintro x' H3 ⟨rfl, rfl⟩ R hR
    have e0 : (0 : Int) + (i : Int) = ((i : Nat) : Int) := by omega
    rw [e0]
    refine ⟨_, rfl, _, rfl, over_scal x i, _, rfl, ?_⟩
    refine ite2 (fun c => ?_) (fun c => ?_)
    · have e : bindV x i = .int 1 := by unfold bindV; exact if_pos c
      have := hR H3 (Same.refl _)
      rw [e] at this
      exact this
    · have e : bindV x i = .int 0 := by unfold bindV; exact if_neg c
      have := hR H3 (Same.refl _)
      rw [e] at this
      exact this
  · rw [hrl] at h2
    exact q p H2 s2 h2
end K40
end
section
set_option maxHeartbeats 1000000
namespace K40
open PySem L2 L3 KM PyProof.Rows
seal L2.PE L2.PS L2.PSs L2.PT L2.PW L2.PA L2.PG L2.PGs L2.PI L2.PC L2.PO L2.PPs L2.PK L3.PIf
variable {P : Program} {w : World} {K : PySem.W.Frag} {mg : Str → Option Value} {base : Heap} {t : Adr}
theorem depth_get : ∀ {ps : List D} {i : Nat} {p : D}, ps[i]? = some p → depth p ≤ depthL ps
  | [], _, _, e => by simp at e
  | p :: ps, 0, _, e => by
    simp at e
    subst e
    simp only [depthL]
    omega
  | _ :: ps, i + 1, p, e => by
    have := depth_get (ps := ps) (i := i) (by simpa using e)
    simp only [depthL]
    omega
end K40
end
section
namespace L3
open PySem PySem.Spec PyProof.Rows L2 KM
theorem cat_tup0 {prog : Program} {w : World} {A : Around} {E : Value → Shared → Prop} {s : Shared} {t b : Addr} {ws : List Value} {Q : Value → Shared → Prop} (ht : IsTup s.heap t (([] : List Value)).toArray) (hb : IsTup s.heap b ws.toArray) (h1 : Q (.ref b) s) :
    wpAny (model prog w) A (binaryOp .Add (.ref t) (.ref b)) Q E s := by
  obtain ⟨⟨cls, dd, data, sl⟩, ho, hc, n, hd⟩ := id ht
  obtain ⟨⟨cls2, dd2, data2, sl2⟩, ho2, hc2, n2, hd2⟩ := id hb
  simp only at hc hd hc2 hd2
  subst hc hd hc2 hd2
  exact concat_meets ⟨_, ho, rfl⟩ ⟨_, ho2, rfl⟩ noFill_tuple_add seq_tuple_add PySem.F.slot_tuple_add PySem.F.entry_tuple_add (PySem.F.args_tuple_add_2 _ _) (tuple_addW0 t b _ ws.toArray n n2 dd dd2 sl sl2 (by simp)) ⟨ho, ho2, h1⟩
noncomputable def rCat0 (K : PySem.W.Frag) : R2 := fun x y H Q => ∃ a b xs ys, x = .ref a ∧ y = .ref b ∧ SqT K H a xs ∧ SqT K H b ys ∧ xs.length + ys.length ≤ sizeLine ∧ (xs = [] → Q (.ref b) H) ∧ (xs ≠ [] → ys = [] → Q (.ref a) H) ∧
  (xs ≠ [] → ys ≠ [] → ∀ p, H p = none → Q (.ref p) (upd H p (.tup (xs ++ ys))))
theorem op_cat0 {X : Cx} : OpR X (binaryOp .Add) (rCat0 X.K) := by
  intro pins s σ H x y v u Q I rx ry h
  obtain ⟨a, b, xs, ys, rfl, rfl, ha, hb, hz, q0, q1, q2⟩ := h
  by_cases hx : xs = []
  · cases rx
    cases ry
    subst hx
    obtain ⟨its, r1, p1, _⟩ := I.tuple ha
    obtain ⟨its2, r2, p2, _⟩ := I.tuple hb
    have e : its = [] := r1.nil_iff.mpr rfl
    subst e
    exact cat_tup0 p1 p2 ⟨.ref b, H, I, rfl, q0 rfl⟩
  · exact op_catT pins s σ H _ _ v u Q I rx ry ⟨a, b, xs, ys, rfl, rfl, ha, hb, hx, hz, q1 hx, q2 hx⟩
noncomputable def rCatU : R2 := fun x y H Q => ∃ a b xs ys, x = .ref a ∧ y = .ref b ∧ H a = some (.tup xs) ∧ H b = some (.tup ys) ∧ xs.length + ys.length ≤ sizeLine ∧ ∀ p H', Same H H' → H' p = some (.tup (xs ++ ys)) → Q (.ref p) H'
theorem op_catU {X : Cx} : OpR X (binaryOp .Add) rCatU := by
  intro pins s σ H x y v u Q I rx ry h
  obtain ⟨a, b, xs, ys, rfl, rfl, ha, hb, hz, q⟩ := h
  refine op_cat0 pins s σ H _ _ v u Q I rx ry ⟨a, b, xs, ys, rfl, rfl, SqT.of ha, SqT.of hb, hz, fun e => ?_, fun _ e => ?_, fun _ _ p hp => q p _ (same_new hp _) upd_same⟩
  · subst e
    exact q b H (Same.refl H) hb
  · subst e
    exact q a H (Same.refl H) (by rw [List.append_nil]; exact ha)
mutual
theorem Rep.updL {H : Hp} {p : Addr} {xs : List V} {o : HO} (h : H p = some (.lst xs)) : ∀ {d : D} {v : V}, Rep H d v → Rep (upd H p o) d v
  | .non, _, r => r
  | .bl _, _, r => r
  | .int _, _, r => r
  | .str _, _, r => r
  | .tup _, _, ⟨a, vs, e, q, r⟩ => ⟨a, vs, e, by rw [upd_ne (ne_of q h (by simp))]; exact q, Reps.updL h r⟩
theorem Reps.updL {H : Hp} {p : Addr} {xs : List V} {o : HO} (h : H p = some (.lst xs)) : ∀ {ds : List D} {vs : List V}, Reps H ds vs → Reps (upd H p o) ds vs
  | [], _, r => r
  | _ :: _, _, ⟨v, r, e, q, t⟩ => ⟨v, r, e, Rep.updL h q, Reps.updL h t⟩
end
theorem comp_reps {J : It} {p : Addr} {H1 : Hp} {g : TG} {te : TE} {b : L2.St} {C : Hp → Prop} (n : Nat) (f : Nat → D) (hp : H1 p = none) (hn : n ≤ sizeLine)
    (hgo : ∀ i H2, i < n → Same H1 H2 → J.go i H2 ∧ ∀ x H3, J.yld i H2 x H3 → ∀ (R : V → Hp → Prop), (∀ v H6, Same H2 H6 → Rep H6 (f i) v → R v H6) → g x b H3 fun σ4 H4 => te σ4 H4 R)
    (hd : ∀ acc H2, Same H1 H2 → H2 p = some (.lst acc) → Reps H2 ((List.range n).map f) acc → J.stop n H2 ∧ C H2) :
    ∃ W : Nat → Nat → List V → Hp → Prop, (∃ m, W 0 m [] (upd H1 p (.lst []))) ∧ ∀ i m acc H2, W i m acc H2 → (J.stop i H2 ∧ C H2) ∨ (J.go i H2 ∧ ∀ x H3, J.yld i H2 x H3 → g x b H3 fun σ4 H4 => tYes σ4 H4 fun ok H5 =>
      if ok = true then te σ4 H5 fun v H6 => H6 p = some (.lst acc) ∧ acc.length < sizeLine ∧ ∃ m', m' < m ∧ W (i + 1) m' (acc ++ [v]) (upd H6 p (.lst (acc ++ [v]))) else ∃ m', m' < m ∧ W (i + 1) m' acc H5) := by
  refine comp_by (Q := fun _ H => C H) n (fun i acc H2 => Reps H2 ((List.range i).map f) acc ∧ H2 p = some (.lst acc) ∧ Same H1 H2) ⟨rfl, upd_same, same_new hp _⟩ ?_ ?_
  · rintro i acc H2 hi ⟨rr, h2, s2⟩
    obtain ⟨g1, g2⟩ := hgo i H2 hi s2
    refine ⟨g1, fun x H3 y => ?_⟩
    simp only [tYes, if_true]
    have hl := rr.length
    rw [List.length_map, List.length_range] at hl
    refine g2 x H3 y _ fun v H6 s6 rv => ⟨s6 _ _ h2, by omega, nx hi ⟨?_, upd_same, same_upd (s2.trans s6) hp⟩⟩
    rw [List.range_succ, List.map_append]
    exact ((rr.mono s6).updL (s6 _ _ h2)).append (Reps.one (rv.updL (s6 _ _ h2)))
  · rintro acc H2 ⟨rr, h2, s2⟩
    exact hd acc H2 s2 h2 rr
end L3
namespace L3
open PySem PySem.Spec PyProof.Rows L2
theorem _root_.L2.Room.mark {j : Nat} {A : Around} {h : Option Value} (r : Room j A) (hj : j < 130 := by decide) : Room j (A.mark h) := ⟨r.dp, r.un, fun z => absurd hj (Nat.not_lt.mpr z)⟩
end L3
end
section
namespace L3
open PySem PySem.Spec PyProof.Rows L2 KM
theorem get_le_sum : ∀ (ns : List Nat) (k : Nat), (ns[k]?).getD 0 ≤ ns.sum
  | [], _ => by simp
  | n :: ns, 0 => by simp
  | n :: ns, k + 1 => by
    have := get_le_sum ns k
    simp only [List.getElem?_cons_succ, List.sum_cons]
    omega
end L3
end
section
set_option maxHeartbeats 1000000
namespace K40
open PySem L2 L3 KM PyProof.Rows
seal L2.PE L2.PS L2.PSs L2.PT L2.PW L2.PA L2.PG L2.PGs L2.PI L2.PC L2.PO L2.PPs L2.PK L3.PIf
variable {P : Program} {w : World} {K : PySem.W.Frag} {mg : Str → Option Value} {base : Heap} {t : Adr}
mutual
noncomputable def plc : D → List (List Nat)
  | .tup (.str x :: ps) => [] :: (if leafW x = true then [] else plcL 0 ps)
  | _ => []
noncomputable def plcL : Nat → List D → List (List Nat)
  | _, [] => []
  | i, d :: ds => (plc d).map (i :: ·) ++ plcL (i + 1) ds
end
theorem wf_form {nm : D → Bool} {k : Bool} : ∀ {d : D}, wfG nm k d = true → ∃ x ps, d = .tup (.str x :: ps)
  | .tup (.str x :: ps), _ => ⟨x, ps, rfl⟩
  | .tup [], h => by simp [wfG] at h
  | .tup (.non :: _), h => by simp [wfG] at h
  | .tup (.bl _ :: _), h => by simp [wfG] at h
  | .tup (.int _ :: _), h => by simp [wfG] at h
  | .tup (.tup _ :: _), h => by simp [wfG] at h
  | .non, h => by simp [wfG] at h
  | .bl _, h => by simp [wfG] at h
  | .int _, h => by simp [wfG] at h
  | .str _, h => by simp [wfG] at h
theorem wfL_kid {nm : D → Bool} : ∀ {cs : List Nat} {ps : List D} {i : Nat} {p : D}, wfL nm cs ps = true → (∀ c ∈ cs, c = 107 ∨ c = 116) → ps[i]? = some p → ∃ k, wfG nm k p = true
  | [], [], _, _, _, _, e => by simp at e
  | [], _ :: _, _, _, h, _, _ => by simp [wfL] at h
  | _ :: _, [], _, _, h, _, _ => by simp [wfL] at h
  | c :: cs, q :: ps, 0, p, h, hc, e => by
    simp at e
    subst e
    rw [wfL_cons, Bool.and_eq_true] at h
    have h1 := h.1
    unfold dueB at h1
    rcases hc c List.mem_cons_self with z | z
    · rw [z, if_pos rfl] at h1
      exact ⟨true, h1⟩
    · rw [z, if_neg (by decide), if_pos rfl] at h1
      exact ⟨false, h1⟩
  | c :: cs, q :: ps, i + 1, p, h, hc, e => by
    rw [wfL_cons, Bool.and_eq_true] at h
    exact wfL_kid (i := i) h.2 (fun c hc' => hc c (List.mem_cons_of_mem _ hc')) (by simpa using e)
theorem wf_kid {k : Bool} {x : Str} {ps : List D} {i : Nat} {p : D} (h : wfG isStrD k (.tup (.str x :: ps)) = true) (e : (kidsD x ps)[i]? = some p) : (∃ k, wfG isStrD k p = true) ∧ depth p < depth (.tup (.str x :: ps)) := by
  obtain ⟨s, h1, h2, h3, h4, h5, h6, h7, _⟩ := wf_shape h
  unfold kidsD at e
  split at e
  · simp at e
  · rename_i nl
    refine ⟨wfL_kid h3 (h7 (by simpa using nl)) e, ?_⟩
    have := depth_get e
    simp only [depth, depthL]
    omega
theorem kids4 {k : Bool} {x : Str} {ps : List D} (h : wfG isStrD k (.tup (.str x :: ps)) = true) : (kidsD x ps).length ≤ 4 := by
  obtain ⟨s, h1, h2, h3, h4, h5, h6, h7, _⟩ := wf_shape h
  unfold kidsD
  split
  · exact Nat.zero_le _
  · rw [← h5]; simpa using h4
structure Rt (d : D) (n : Nat) : Prop where
  wf : ∃ k, wfG isStrD k d = true
  dp : depth d < n
  ct : (plc d).length ≤ 2000000
  n60 : n ≤ 60
theorem rep_new {H : Hp} {p : Addr} {ds : List D} {vs : List V} (hp : H p = none) (r : Reps H ds vs) : Rep (upd H p (.tup vs)) (.tup ds) (.ref p) := ⟨p, vs, rfl, upd_same, r.mono (same_new hp _)⟩
theorem rs {H : Hp} {d : D} {v : V} {ds : List D} {vs : List V} (r : Rep H d v) (t : Reps H ds vs) : Reps H (d :: ds) (v :: vs) := ⟨v, vs, rfl, r, t⟩
theorem r0 {H : Hp} : Reps H [] [] := rfl
theorem rw_ {H : Hp} {x : Str} (h : x.length ≤ 1000 := by decide) : Rep H (.str x) (.str x) := ⟨rfl, h⟩
theorem ri {H : Hp} {i : Int} : Rep H (.int i) (.int i) := rfl
structure Th (d : D) (dp kn : Nat) : Prop where
  wf : wfG isStrD false d = true
  dp : depth d ≤ dp
  kn : knots d ≤ kn
noncomputable def Wf (d : D) : Prop := ∃ k, wfG isStrD k d = true
theorem wf_ps {d : D} (h : Wf d) : ∃ x ps k, d = .tup (.str x :: ps) ∧ wfG isStrD k d = true ∧ ps.length ≤ 10 := by
  obtain ⟨k, h⟩ := h
  obtain ⟨x, ps, rfl⟩ := wf_form h
  obtain ⟨sh, _, _, _, h4, h5, _⟩ := wf_shape h
  refine ⟨x, ps, k, rfl, h, ?_⟩
  rw [← h5]
  exact Nat.le_trans (by simpa using h4) (by decide)
end K40
end
section
set_option maxHeartbeats 1000000
namespace K40
open PySem L2 L3 KM
seal L2.PE L2.PS L2.PSs L2.PT L2.PW L2.PA L2.PG L2.PGs L2.PI L2.PC L2.PO L2.PPs L2.PK L3.PIf
variable {P : Program} {w : World} {K : PySem.W.Frag} {mg : Str → Option Value} {base : Heap} {t : Adr}
theorem sizeLine_eq : sizeLine = 16777216 := by decide
noncomputable def okH (d : D) : Prop := d = .non ∨ d = .tup [] ∨ ∃ x, d = .str x
mutual
noncomputable def okD : D → Prop
  | .tup [] => True
  | .tup (h :: ps) => okH h ∧ okL ps ∧ ps.length ≤ 20
  | _ => True
noncomputable def okL : List D → Prop
  | [] => True
  | p :: ps => okD p ∧ okL ps
end
mutual
theorem wf_ok : ∀ {k : Bool} {d : D}, wfG isStrD k d = true → okD d
  | k, .tup (.str x :: ps), h => by
    obtain ⟨s, e1, e2, e3, e4, e5, _⟩ := wf_shape h
    refine ⟨.inr (.inr ⟨x, rfl⟩), wf_okL e3, ?_⟩
    have : s.cps.toList.length = s.cps.size := by simp
    omega
  | k, .tup [], h => by simp [wfG] at h
  | k, .tup (.non :: _), h => by simp [wfG] at h
  | k, .tup (.bl _ :: _), h => by simp [wfG] at h
  | k, .tup (.int _ :: _), h => by simp [wfG] at h
  | k, .tup (.tup _ :: _), h => by simp [wfG] at h
  | k, .non, h => by simp [wfG] at h
  | k, .bl _, h => by simp [wfG] at h
  | k, .int _, h => by simp [wfG] at h
  | k, .str _, h => by simp [wfG] at h
theorem wf_okL : ∀ {cs : List Nat} {ps : List D}, wfL isStrD cs ps = true → okL ps
  | [], [], _ => trivial
  | [], _ :: _, h => by simp [wfL] at h
  | _ :: _, [], h => by simp [wfL] at h
  | c :: cs, p :: ps, h => by
    rw [wfL_cons, Bool.and_eq_true] at h
    refine ⟨?_, wf_okL h.2⟩
    have h := h.1
    unfold dueB at h
    by_cases c1 : c = 107
    · rw [if_pos c1] at h; exact wf_ok h
    · rw [if_neg c1] at h
      by_cases c2 : c = 116
      · rw [if_pos c2] at h; exact wf_ok h
      · rw [if_neg c2] at h
        cases p <;> first | trivial | (simp [numD, isStrD] at h; done)
end
theorem ok_len : ∀ {ds : List D}, okD (.tup ds) → ds.length ≤ 21
  | [], _ => by simp
  | _ :: ps, h => by have := h.2.2; simp; omega
theorem okL_mem : ∀ {ps : List D} {p : D}, okL ps → p ∈ ps → okD p
  | [], _, _, e => by simp at e
  | q :: ps, p, h, e => by
    rcases List.mem_cons.mp e with rfl | e
    · exact h.1
    · exact okL_mem h.2 e
theorem ok_tk : ∀ {d : D}, okD d → ∀ x ∈ tk d, okD x
  | .tup [], _, x, hx => by simp [tk] at hx
  | .tup (h :: ps), ok, x, hx => by
    have hm : x ∈ h :: ps := (List.mem_filter.mp hx).1
    rcases List.mem_cons.mp hm with rfl | hm
    · rcases ok.1 with rfl | rfl | ⟨y, rfl⟩ <;> simp [okD]
    · exact okL_mem ok.2.1 hm
  | .non, _, x, hx => by simp [tk] at hx
  | .bl _, _, x, hx => by simp [tk] at hx
  | .int _, _, x, hx => by simp [tk] at hx
  | .str _, _, x, hx => by simp [tk] at hx
theorem ok_lv : ∀ (n : Nat) (l : List D), (∀ x ∈ l, okD x) → ∀ x ∈ lv n l, okD x
  | 0, _, h => h
  | n + 1, l, h => ok_lv n _ fun x hx => by
    obtain ⟨d, hd, hx⟩ := List.mem_flatMap.mp hx
    exact ok_tk (h d hd) x hx
noncomputable def vastD (d : D) : Bool := !(decide (knots d ≤ 600) && decide (depth d ≤ 40))
noncomputable def spVast : Sp := fun vs H Q _ => ∃ ds v, vs = [v] ∧ Rep H (.tup ds) v ∧ okD (.tup ds) ∧ knots (.tup ds) ≤ 8000000 ∧ ∀ H', Same H H' → Q (.bl (vastD (.tup ds))) H'
noncomputable def pickT (ds : List D) (vs : List V) (j : Nat) : Option V := if isTup ((ds[j]?).getD .non) then vs[j]? else none
theorem reps_pick {H : Hp} : ∀ {ds : List D} {vs : List V}, Reps H ds vs → Reps H (ds.filter isTup) ((List.range vs.length).filterMap (pickT ds vs))
  | [], _, r => by
    have r : _ = [] := r
    subst r
    exact rfl
  | d :: ds, _, ⟨v, vr, e, q, t⟩ => by
    subst e
    have ih := reps_pick t
    rw [List.length_cons, List.range_succ_eq_map, List.filterMap_cons, List.filterMap_map]
    have e : (pickT (d :: ds) (v :: vr) ∘ Nat.succ) = pickT ds vr := by
      funext j
      simp [pickT]
    rw [e]
    by_cases hd : isTup d = true
    · rw [List.filter_cons_of_pos hd]
      have e0 : pickT (d :: ds) (v :: vr) 0 = some v := by simp [pickT, hd]
      simp only [e0]
      exact ⟨v, _, rfl, q, ih⟩
    · rw [List.filter_cons_of_neg hd]
      have e0 : pickT (d :: ds) (v :: vr) 0 = none := by simp [pickT, hd]
      simp only [e0]
      exact ih
theorem tups_one (ds : List D) : ∀ x ∈ [D.tup ds], isTup x = true := fun x hx => by
  rw [List.mem_singleton.mp hx]; rfl
theorem knots_one (ds : List D) : knotsL [D.tup ds] = knots (.tup ds) := by simp [knotsL]
theorem depth_one (ds : List D) : depthL [D.tup ds] = depth (.tup ds) := by simp [depthL]
theorem lv_len (i : Nat) (ds : List D) : (lv i [D.tup ds]).length ≤ knots (.tup ds) := by
  have h := upto_knots (i + 1) [D.tup ds] (tups_one ds)
  rw [knots_one] at h
  simp only [upto] at h
  omega
theorem flat_take_len (l : List D) (j : Nat) : ((l.take j).flatMap tk).length ≤ (l.flatMap tk).length := by
  have e : l.flatMap tk = (l.take j).flatMap tk ++ (l.drop j).flatMap tk := by rw [← List.flatMap_append, List.take_append_drop]
  rw [e, List.length_append]
  omega
theorem flat_len {L : Nat} : ∀ (l : List D), (∀ d ∈ l, (tk d).length ≤ L) → (l.flatMap tk).length ≤ l.length * L
  | [], _ => by simp
  | d :: l, h => by
    rw [List.flatMap_cons, List.length_append, List.length_cons, Nat.add_mul, Nat.one_mul]
    have := flat_len l fun x hx => h x (List.mem_cons_of_mem _ hx)
    have := h d List.mem_cons_self
    omega
theorem tk_len {d : D} (h : okD d) : (tk d).length ≤ 21 := by
  cases d with
  | tup es => exact Nat.le_trans (List.length_filter_le _ _) (ok_len h)
  | _ => simp [tk]
theorem vast_yes {ds : List D} {i : Nat} (h : 600 < upto i [D.tup ds]) : vastD (.tup ds) = true := by
  have := upto_knots i [D.tup ds] (tups_one ds)
  rw [knots_one] at this
  unfold vastD
  rw [decide_eq_false (by omega)]
  rfl
theorem vast_end {ds : List D} (h : upto 40 [D.tup ds] ≤ 600) : vastD (.tup ds) = decide (0 < (lv 40 [D.tup ds]).length) := by
  have e := small_iff [D.tup ds] (tups_one ds)
  rw [knots_one, depth_one] at e
  unfold vastD
  by_cases hz : lv 40 [D.tup ds] = []
  · obtain ⟨a, b⟩ := e.mp ⟨h, hz⟩
    rw [decide_eq_true a, decide_eq_true b, hz]
    rfl
  · have : ¬ (knots (.tup ds) ≤ 600 ∧ depth (.tup ds) ≤ 40) := fun z => hz (e.mpr z).2
    have hl : 0 < (lv 40 [D.tup ds]).length := List.length_pos_iff.mpr hz
    rw [decide_eq_true hl]
    by_cases a : knots (.tup ds) ≤ 600
    · rw [decide_eq_false fun b => this ⟨a, b⟩, Bool.and_false]; rfl
    · rw [decide_eq_false a]; rfl
theorem sc_is_vast : FnScope ["value", "level", "knots", "depth", "below", "knot"] ["value"] (defScope s_is_vast) := ⟨rfl, rfl, rfl, by decide +kernel, rfl, by decide +kernel, by decide +kernel⟩
theorem c_is_vast (D : Df K mg "is_vast" s_is_vast ["value"]) (M : Mg mg t) : Cal P w K mg CX0 "is_vast" (1) ["value"] spVast := by
  refine D.ok sc_is_vast (fun vs H Q E h => ?_) (fun base f cdv A outer s H vs Q E hr h => ?_)
  · obtain ⟨d, v, rfl, _⟩ := h
    rfl
  obtain ⟨ds, v, rfl, r, ok, hk, q⟩ := h
  refine ⟨_, (pss_cons (ps_set (i := 1) sc_is_vast.nd rfl (by first | exact Or.inl rfl | exact Or.inr rfl) (pe_lst (pa_cons (pv 0) pa_nil)))
      (pss_cons (ps_set (i := 2) sc_is_vast.nd rfl (by first | exact Or.inl rfl | exact Or.inr rfl) pe_int)
      (pss_cons (ps_for PassesOwn.never rfl (pi_range1 rfl M.n_range (pa_cons (pe_gint M.g_MOST_DEEP rfl) pa_nil)) (pg_name (i := 3) sc_is_vast.nd rfl (by first | exact Or.inl rfl | exact Or.inr rfl)) (pss_cons (ps_aug (i := 2) sc_is_vast.nd rfl (by first | exact Or.inl rfl | exact Or.inr rfl) (pe_callB call_len_seq rfl M.n_len bt_len (pa_cons (pv 1) pa_nil)) ip_add)
      (pss_cons (ps_if (pt_cmpR op_gt (pv 2) (pe_gint M.g_MOST_KNOTS rfl) (nomark _)) (pss_one (ps_ret pe_bl)) pss_nil)
      (pss_cons (ps_set (i := 4) sc_is_vast.nd rfl (by first | exact Or.inl rfl | exact Or.inr rfl) (pe_lst pa_nil))
      (pss_cons (ps_for PassesOwn.never rfl (pi_list (pv 1)) (pg_name (i := 5) sc_is_vast.nd rfl (by first | exact Or.inl rfl | exact Or.inr rfl)) (pss_one (ps_expr (pe_bm PySem.F.plainAttrs_list PySem.F.slot_list_extend PySem.F.type_list_extend mt_extend (pv 4) (pa_cons (pe_comp (N' := ["part"]) (own := 1) (fr := []) rfl (blk_of (N := ["value", "level", "knots", "depth", "below", "knot"]) (sc := defScope s_is_vast) rfl rfl rfl (by decide +kernel)) (pi_tup (pv 5)) (own_name (by decide)) (fun _ _ _ => (pg_name (i := 0) (show List.Nodup (["part"] : List Str) by decide +kernel) rfl (Or.inl rfl))) (fun _ _ _ => (pif_one (pt_val (pe_callB (call_isinstK (K := K)) rfl M.n_isinstance bt_isinstance (pa_cons (pv 0) (pa_cons (pe_ty M.n_tuple bt_tuple rfl) pa_nil)))))) (fun _ _ _ => (pv 0))) pa_nil)))))
      (pss_one (ps_set (i := 1) sc_is_vast.nd rfl (by first | exact Or.inl rfl | exact Or.inr rfl) (pv 4))))))))
      (pss_one (ps_ret (pe_cmpR op_gt (pe_callB call_len_seq rfl M.n_len bt_len (pa_cons (pv 1) pa_nil)) pe_int (nomark _))))))), ?_⟩
  try dsimp only [cxK, cxK2]
  refine let4 ?_
  intro _ _ _ _
  refine ⟨_, rfl, (by show 1 ≤ sizeLine; decide), fun q1 hq1 => ?_⟩
  have e1 : (upd H q1 (.lst [v])) q1 = some (.lst [v]) := upd_same
  have s1 : Same H (upd H q1 (.lst [v])) := same_new hq1 _
  refine ⟨40, rfl, by decide, by decide, for_range (n := 40) (fun i σ' H' => ∃ (q : Addr) (us : List V) (k3 k4 k5 : Option V), σ' = [some v, some (.ref q), some (.int (upto i [KM.D.tup ds])), k3, k4, k5] ∧ H' q = some (.lst us) ∧
    Reps H' (lv i [KM.D.tup ds]) us ∧ upto i [KM.D.tup ds] ≤ 600 ∧ Same H H') ?_ ?_ ?_⟩
  · exact ⟨q1, [v], none, none, none, rfl, e1, Reps.one (r.mono s1), by simp [upto], s1⟩
  · rintro i σ' H2 hi ⟨q2, us, k3, k4, k5, rfl, hq2, rp, hup, s2⟩
    have lus := rp.length
    have lvl := lv_len i ds
    refine ⟨_, rfl, _, rfl, q2, us, rfl, .inl (SqL.of hq2), _, _, rfl, rfl, ?_⟩
    have eu : ((upto i [KM.D.tup ds] : Nat) : Int) + ((us.length : Nat) : Int) = ((upto (i + 1) [KM.D.tup ds] : Nat) : Int) := by
      simp only [upto]
      omega
    show tSeq _ _ _ [some v, some (.ref q2), some (.int (((upto i [KM.D.tup ds] : Nat) : Int) + ((us.length : Nat) : Int))), some (.int (0 + (i : Int))), k4, k5] H2
    rw [eu]
    refine ⟨_, rfl, _, _, rfl, rfl, _, rfl, ?_⟩
    refine ite2 (fun c => ?_) (fun c => ?_)
    · have c : (600 : Int) < ((upto (i + 1) [KM.D.tup ds] : Nat) : Int) := of_decide_eq_true c
      have e := vast_yes (ds := ds) (i := i + 1) (by omega)
      rw [e] at q
      exact q H2 s2
    have c : ¬ (600 : Int) < ((upto (i + 1) [KM.D.tup ds] : Nat) : Int) := of_decide_eq_false (Bool.eq_false_iff.mpr c)
    refine ⟨by show 0 ≤ sizeLine; decide, fun q4 hq4 => ?_⟩
    have e4 : (upd H2 q4 (.lst [])) q4 = some (.lst []) := upd_same
    have s4 : Same H2 (upd H2 q4 (.lst [])) := same_new hq4 _
    refine ⟨_, rfl, q2, rfl, ⟨us, SqL.of (s4 _ _ hq2)⟩, for_list (xs := us) (fun j σ' H' => ∃ (bs : List V) (k5 : Option V), σ' = [some v, some (.ref q2), some (.int (upto (i + 1) [KM.D.tup ds])), some (.int (0 + (i : Int))), some (.ref q4), k5] ∧
      H' q4 = some (.lst bs) ∧ Reps H' (((lv i [KM.D.tup ds]).take j).flatMap tk) bs ∧ Same H2 H') ?_ ?_ ?_ ?_⟩
    · exact ⟨[], k5, rfl, e4, by simp [Reps], s4⟩
    · rintro j σ' H' _ ⟨bs, k5, rfl, h4, rb, s'⟩
      exact SqL.of (s' _ _ hq2)
    · rintro j u σ' H5 hu ⟨bs, k5, rfl, h4, rb, s5⟩
      obtain ⟨d, hd, rd⟩ := rp.get' hu
      have htd := lv_tups i [KM.D.tup ds] (tups_one ds) d (List.mem_of_getElem? hd)
      obtain ⟨es, rfl⟩ : ∃ es, d = .tup es := by
        cases d <;> first | exact ⟨_, rfl⟩ | cases htd
      obtain ⟨a, ws, rfl, ha, rw'⟩ := rd.mono s5
      have hsz : ws.length ≤ sizeLine := by
        have h1 := rw'.length
        have h2 := ok_len (ok_lv i [KM.D.tup ds] (fun x hx => by rw [List.mem_singleton.mp hx]; exact ok) _ (List.mem_of_getElem? hd))
        rw [sizeLine_eq]
        omega
      refine ⟨_, rfl, .inl ⟨rfl, _, SqL.of h4⟩, _, rfl, a, rfl, ⟨ws, SqT.of ha⟩, fun p hp => comp_opt ws.length (pickT es ws) hp hsz (fun k H6 hk6 s6 => ?_) fun H6 s6 h6 => ?_⟩
      · obtain ⟨wk, hwk⟩ : ∃ x, ws[k]? = some x := ⟨_, List.getElem?_eq_getElem hk6⟩
        have hqa : SqT K H6 a ws := SqT.of (s6 _ _ ha)
        refine ⟨⟨ws, wk, hqa, hwk⟩, ?_⟩
        rintro x' H7 ⟨rfl, hy⟩ R R0 hR hR0
        have hx := hy ws hqa
        rw [hwk] at hx
        cases hx
        obtain ⟨dk, hdk, rk⟩ := rw'.get' hwk
        refine ⟨_, rfl, _, _, _, _, rfl, (Rep.mono s6 rk).ty, kit_tup _ dk, _, rfl, ?_⟩
        refine ite2 (fun c => ?_) (fun c => ?_)
        · exact ⟨_, rfl, hR wk H7 (by simp [pickT, hdk, c, hwk]) (Same.refl _)⟩
        · exact hR0 H7 (by simp [pickT, hdk, c]) (Same.refl _)
      · have lb := rb.length
        have h4' := s6 _ _ h4
        have n4 : q4 ≠ p := ne_of_none h4 hp
        have hl : (lv i [KM.D.tup ds]).take (j + 1) = (lv i [KM.D.tup ds]).take j ++ [KM.D.tup es] := by rw [List.take_add_one, hd]; rfl
        have hfl : ((lv i [KM.D.tup ds]).take (j + 1)).flatMap tk = ((lv i [KM.D.tup ds]).take j).flatMap tk ++ es.filter isTup := by rw [hl, List.flatMap_append]; simp [tk]
        have rpk := reps_pick (rw'.mono s6)
        have lpk := rpk.length
        have lfl := flat_take_len (lv i [KM.D.tup ds]) (j + 1)
        rw [← lv_succ, hfl, List.length_append] at lfl
        have lv1 : (lv (i + 1) [KM.D.tup ds]).length ≤ 600 * 21 := by
          rw [lv_succ]
          refine Nat.le_trans (flat_len _ fun x hx => tk_len (ok_lv i [KM.D.tup ds] (fun x hx => by rw [List.mem_singleton.mp hx]; exact ok) x hx)) (Nat.mul_le_mul_right _ ?_)
          simp only [upto] at c
          omega
        have np : ∀ vs, H6 q4 ≠ some (.tup vs) := fun vs z => by rw [h4'] at z; cases z
        refine ⟨⟨ws, SqT.of (s6 _ _ ha), Nat.le_refl _⟩, q4, p, _, _, rfl, rfl, h4', h6, ?_, ?_⟩
        · rw [lb, lpk, sizeLine_eq]
          omega
        · refine ⟨_, _, rfl, upd_same, ?_, fun b o hb => ?_⟩
          · rw [hfl]
            exact Reps.monoX (SameX.upd _) np ((rb.mono s6).append rpk)
          · rw [upd_ne (ne_of_none hb hq4)]
            exact s6 _ _ (s5 _ _ hb)
    · rintro σ' H5 ⟨bs, k5, rfl, h4, rb, s5⟩
      rw [List.take_of_length_le (by omega), ← lv_succ] at rb
      refine ⟨_, rfl, q4, bs, _, _, _, rfl, h4, rb, by omega, s2.trans s5⟩
  · rintro σ' H2 ⟨q2, us, k3, k4, k5, rfl, hq2, rp, hup, s2⟩
    refine ⟨_, rfl, q2, us, rfl, .inl (SqL.of hq2), _, _, rfl, rfl, ?_⟩
    have e : decide ((0 : Int) < ((us.length : Nat) : Int)) = vastD (.tup ds) := by
      rw [vast_end hup, rp.length]
      simp
    show Q (.bl (decide ((0 : Int) < ((us.length : Nat) : Int)))) H2
    rw [e]
    exact q H2 s2
end K40
end
section
namespace L3
open PySem PySem.Spec PyProof.Rows L2 KM
theorem comp_ints {J : It} {p : Addr} {H1 : Hp} {g : TG} {te : TE} {b : L2.St} {C : Hp → Prop} (n : Nat) (B : Nat → Int → Prop) (hp : H1 p = none) (hn : n ≤ sizeLine)
    (hgo : ∀ i H2, i < n → Same H1 H2 → J.go i H2 ∧ ∀ x H3, J.yld i H2 x H3 → ∀ (R : V → Hp → Prop), (∀ (z : Int) H6, Same H2 H6 → B i z → R (.int z) H6) → g x b H3 fun σ4 H4 => te σ4 H4 R)
    (hd : ∀ (ns : List Int) H2, Same H1 H2 → ns.length = n → (∀ (i : Nat) (z : Int), ns[i]? = some z → B i z) → H2 p = some (.lst (ns.map V.int)) → J.stop n H2 ∧ C H2) :
    ∃ W : Nat → Nat → List V → Hp → Prop, (∃ m, W 0 m [] (upd H1 p (.lst []))) ∧ ∀ i m acc H2, W i m acc H2 → (J.stop i H2 ∧ C H2) ∨ (J.go i H2 ∧ ∀ x H3, J.yld i H2 x H3 → g x b H3 fun σ4 H4 => tYes σ4 H4 fun ok H5 =>
      if ok = true then te σ4 H5 fun v H6 => H6 p = some (.lst acc) ∧ acc.length < sizeLine ∧ ∃ m', m' < m ∧ W (i + 1) m' (acc ++ [v]) (upd H6 p (.lst (acc ++ [v]))) else ∃ m', m' < m ∧ W (i + 1) m' acc H5) := by
  refine comp_by (Q := fun _ H => C H) n (fun i acc H2 => ∃ ns : List Int, acc = ns.map V.int ∧ ns.length = i ∧ (∀ (j : Nat) (z : Int), ns[j]? = some z → B j z) ∧ H2 p = some (.lst acc) ∧ Same H1 H2) ⟨[], rfl, rfl, fun j z e => by simp at e, upd_same, same_new hp _⟩ ?_ ?_
  · rintro i acc H2 hi ⟨ns, rfl, hl, hB, h2, s2⟩
    obtain ⟨g1, g2⟩ := hgo i H2 hi s2
    refine ⟨g1, fun x H3 y => ?_⟩
    simp only [tYes, if_true]
    refine g2 x H3 y _ fun z H6 s6 hz => ⟨s6 _ _ h2, by rw [List.length_map]; omega, nx hi ⟨ns ++ [z], by simp, by simp [hl], fun j y e => ?_, upd_same, same_upd (s2.trans s6) hp⟩⟩
    by_cases hj : j < ns.length
    · rw [List.getElem?_append_left hj] at e
      exact hB j y e
    · rw [List.getElem?_append_right (by omega)] at e
      have : j - ns.length = 0 := by
        by_cases q : j - ns.length = 0
        · exact q
        · rw [List.getElem?_eq_none (by simp; omega)] at e; cases e
      rw [this] at e
      simp at e
      subst e
      have : j = i := by omega
      rw [this]
      exact hz
  · rintro acc H2 ⟨ns, rfl, hl, hB, h2, s2⟩
    exact hd ns H2 s2 hl hB h2
end L3
namespace L3
open PySem PySem.Spec PyProof.Rows L2 KM
end L3
end
section
set_option maxHeartbeats 1000000
namespace K40
open PySem L2 L3 KM PyProof.Rows
seal L2.PE L2.PS L2.PSs L2.PT L2.PW L2.PA L2.PG L2.PGs L2.PI L2.PC L2.PO L2.PPs L2.PK L3.PIf
variable {P : Program} {w : World} {K : PySem.W.Frag} {mg : Str → Option Value} {base : Heap} {t : Adr}
theorem leaf_flat {k : Bool} {x : Str} {ps : List D} (h : wfG isStrD k (.tup (.str x :: ps)) = true) (hx : leafW x = true) : ∀ (i : Nat) (p : D), ps[i]? = some p → isTup p = false ∧ (numD p = true ∨ isStrD p = true) := by
  obtain ⟨s, h1, h2, h3, h4, h5, h6, h7, _⟩ := wf_shape h
  have hc : ∀ (cs : List Nat) (qs : List D) (i : Nat), wfL isStrD cs qs = true → (∀ c ∈ cs, ktB c = !leafW x) → ∀ p, qs[i]? = some p → isTup p = false ∧ (numD p = true ∨ isStrD p = true) := fun cs => by
    induction cs with
    | nil =>
      intro qs i hq _ p e
      cases qs with
      | nil => simp at e
      | cons _ _ => simp [wfL] at hq
    | cons c cs ih =>
      intro qs i hq hk p e
      cases qs with
      | nil => simp [wfL] at hq
      | cons q qs =>
        rw [wfL_cons, Bool.and_eq_true] at hq
        cases i with
        | zero =>
          simp at e
          subst e
          have hkc := hk c List.mem_cons_self
          rw [hx] at hkc
          have hq1 := hq.1
          unfold dueB at hq1
          rw [if_neg (fun z => by rw [z, kt1] at hkc; cases hkc), if_neg (fun z => by rw [z, kt2] at hkc; cases hkc)] at hq1
          split at hq1
          · exact ⟨by cases q <;> simp [numD] at hq1 <;> rfl, .inl hq1⟩
          · exact ⟨by cases q <;> simp [isStrD] at hq1 <;> rfl, .inr hq1⟩
        | succ i => exact ih qs i hq.2 (fun c hc => hk c (List.mem_cons_of_mem _ hc)) p (by simpa using e)
  exact fun i p e => hc _ ps i h3 h6 p e
theorem flat_zero : ∀ (ps : List D), (∀ (i : Nat) (p : D), ps[i]? = some p → isTup p = false) → knotsL ps = 0 ∧ depthL ps = 0
  | [], _ => ⟨rfl, rfl⟩
  | p :: ps, h => by
    obtain ⟨h1, h2⟩ := flat_zero ps fun i q e => h (i + 1) q (by simpa using e)
    have h0 := h 0 p rfl
    have e1 : knots p = 0 := by cases p <;> first | rfl | simp [isTup] at h0
    have e2 : depth p = 0 := by cases p <;> first | rfl | simp [isTup] at h0
    simp [knotsL, depthL, h1, h2, e1, e2]
theorem knotsL_sum : ∀ ps : List D, knotsL ps = (ps.map knots).sum
  | [] => rfl
  | p :: ps => by simp [knotsL, knotsL_sum ps]
theorem depthL_max : ∀ ps : List D, depthL ps = maxN (ps.map depth)
  | [] => rfl
  | p :: ps => by rw [depthL, depthL_max ps]; rfl
theorem knots_kids {k : Bool} {x : Str} {ps : List D} (h : wfG isStrD k (.tup (.str x :: ps)) = true) : knots (.tup (.str x :: ps)) = 1 + ((kidsD x ps).map knots).sum ∧ depth (.tup (.str x :: ps)) = 1 + maxN ((kidsD x ps).map depth) := by
  rw [← knotsL_sum, ← depthL_max]
  have e1 : knots (.tup (.str x :: ps)) = 1 + knotsL ps := by simp [knots, knotsL]
  have e2 : depth (.tup (.str x :: ps)) = 1 + depthL ps := by simp [depth, depthL]
  rw [e1, e2]
  unfold kidsD
  by_cases hx : leafW x = true
  · obtain ⟨z1, z2⟩ := flat_zero ps fun i p e => (leaf_flat h hx i p e).1
    rw [if_pos hx, z1, z2]
    exact ⟨rfl, rfl⟩
  · rw [if_neg hx]
    exact ⟨rfl, rfl⟩
structure Rz (d : D) (n : Nat) : Prop where
  wf : Wf d
  dp : depth d < n
  kn : knots d ≤ 8000000
theorem Rz.kid {n : Nat} {x : Str} {ps : List D} {i : Nat} {p : D} (h : Rz (.tup (.str x :: ps)) (n + 1)) (e : (kidsD x ps)[i]? = some p) : Rz p n := by
  obtain ⟨k, wf⟩ := h.wf
  obtain ⟨w1, w2⟩ := wf_kid wf e
  have hd := h.dp
  have hk := h.kn
  refine ⟨w1, by omega, ?_⟩
  rw [(knots_kids wf).1] at hk
  have := get_le_sum ((kidsD x ps).map knots) i
  rw [List.getElem?_map, e] at this
  have : knots p ≤ ((kidsD x ps).map knots).sum := this
  omega
mutual
noncomputable def bigD : D → Bool
  | .int i => decide (99 < i)
  | .tup ds => bigL ds
  | _ => false
noncomputable def bigL : List D → Bool
  | [] => false
  | d :: ds => bigD d || bigL ds
end
theorem bigL_of {ds : List D} : ∀ {ns : List Int}, ns.length = ds.length → (∀ (i : Nat) (z : Int), ns[i]? = some z → decide (99 < z) = bigD ((ds[i]?).getD .non)) → bigL ds = ns.any fun z => decide (99 < z) := by
  induction ds with
  | nil =>
    intro ns h _
    cases ns with
    | nil => rfl
    | cons _ _ => simp at h
  | cons d ds ih =>
    intro ns h hB
    cases ns with
    | nil => simp at h
    | cons z ns =>
      rw [bigL, List.any_cons, ih (by simpa using h) (fun i z e => by simpa using hB (i + 1) z (by simpa using e)), hB 0 z rfl]
      rfl
theorem any_max (b : Int) : ∀ (ns : List Int) (d : Int), d ≤ b → decide (b < maxD ns d) = ns.any fun z => decide (b < z)
  | [], d, h => by
    show decide (b < d) = false
    exact decide_eq_false (by omega)
  | a :: r, d, _ => by
    show decide (b < r.foldl mxI a) = _
    rw [List.any_cons]
    induction r generalizing a with
    | nil => exact (Bool.or_false _).symm
    | cons c r ih =>
      rw [List.foldl_cons, ih, List.any_cons, ← Bool.or_assoc]
      congr 1
      unfold mxI
      by_cases h1 : b < a <;> by_cases h2 : b < c <;> simp [h1, h2] <;> split <;> omega
theorem leaf_big {x : Str} {ps : List D} {k : Bool} (wf : wfG isStrD k (.tup (.str x :: ps)) = true) (hx : leafW x = true) (hv : x ≠ "var") : ∀ (i : Nat) (p : D), ps[i]? = some p → bigD p = false := fun i p e => by
  have hx : x = "name" := by
    unfold leafW at hx
    simp [hv] at hx
    exact hx
  subst hx
  obtain ⟨sh, e1, _, e3, _, e5, _⟩ := wf_shape wf
  rw [shape_name] at e1
  cases e1
  rw [len_w] at e3 e5
  cases ps with
  | nil => simp at e
  | cons p0 rest => cases rest with
    | cons _ _ => simp at e5
    | nil =>
      rw [wfL_cons, Bool.and_eq_true] at e3
      have hn : isStrD p0 = true := by simpa [dueB] using e3.1
      cases i with
      | succ i => simp at e
      | zero =>
        simp at e
        subst e
        cases p0 <;> first | rfl | simp [isStrD] at hn
theorem big_end {x : Str} {ps : List D} {k : Bool} {ns : List Int} {d : Int} (wf : wfG isStrD k (.tup (.str x :: ps)) = true) (hv : x ≠ "var") (hd : d ≤ 99) (hl : ns.length = (kidsD x ps).length) (hB : ∀ (i : Nat) (z : Int), ns[i]? = some z → decide (99 < z) = bigD (((kidsD x ps)[i]?).getD .non)) : decide (99 < maxD ns d) = bigD (.tup (.str x :: ps)) := by
  rw [any_max 99 ns d hd, ← bigL_of hl hB]
  show _ = (false || bigL ps)
  rw [Bool.false_or]
  unfold kidsD
  split
  · rename_i hx
    symm
    show bigL ps = false
    have key : ∀ qs : List D, (∀ p ∈ qs, bigD p = false) → bigL qs = false := fun qs => by
      induction qs with
      | nil => intro _; rfl
      | cons q qs ih => intro h; rw [bigL, h q List.mem_cons_self, ih fun p hp => h p (List.mem_cons_of_mem _ hp)]; rfl
    refine key ps fun p hp => ?_
    obtain ⟨i, hi, rfl⟩ := List.mem_iff_getElem.mp hp
    exact leaf_big wf hx hv i _ (List.getElem?_eq_getElem hi)
  · rfl
noncomputable def spTop (n : Nat) : Sp := fun vs H Q _ => ∃ (d : D) (v : V), vs = [v] ∧ Rep H d v ∧ Rz d n ∧ ∀ (i : Int) (H' : Hp), decide (99 < i) = bigD d → Same H H' → Q (.int i) H'
end K40
end
section
set_option maxHeartbeats 1000000
namespace K40
open PySem L2 L3 KM PyProof.Rows
seal L2.PE L2.PS L2.PSs L2.PT L2.PW L2.PA L2.PG L2.PGs L2.PI L2.PC L2.PO L2.PPs L2.PK L3.PIf
variable {P : Program} {w : World} {K : PySem.W.Frag} {mg : Str → Option Value} {base : Heap} {t : Adr}
theorem sc_top_variable : FnScope ["thing"] ["thing"] (defScope s_top_variable) := ⟨rfl, rfl, rfl, by decide +kernel, rfl, by decide +kernel, by decide +kernel⟩
theorem st_top_variable {n : Nat} (D : Df K mg "top_variable" s_top_variable ["thing"]) (M : Mg mg t) (F_kids_of : Cal P w K mg CX0 "kids_of" (1) ["thing"] spKids) (F_top_variable : Cal P w K mg CX0 "top_variable" (n + 3) ["thing"] (spTop n)) : Cal P w K mg CX0 "top_variable" (n + 4) ["thing"] (spTop (n + 1)) := by
  refine D.ok sc_top_variable (fun vs H Q E h => ?_) (fun base f cdv A outer s H vs Q E hr h => ?_)
  · obtain ⟨d, v, rfl, _⟩ := h
    rfl
  obtain ⟨d, v, rfl, r, rz, q⟩ := h
  obtain ⟨x, ps, k, rfl, wf, hps⟩ := wf_ps rz.wf
  have hk4 := kids4 wf
  obtain ⟨a, us0, rfl, ha, v0, us0, rfl, ⟨rfl, hx⟩, rp⟩ := id r
  have ea : atI (V.str x :: us0) 0 = some (.str x) := atI_nat (j := 0) rfl
  refine ⟨_, (pss_cons (ps_if (pt_cmpR op_eq (pe_ix ix_tup (pv 0) pe_int (fun _ _ => rfl)) pe_str (nomark _)) (pss_one (ps_ret (pe_ix ix_tup (pv 0) pe_int (fun _ _ => rfl)))) pss_nil)
      (pss_one (ps_ret (pe_maxD M.n_max (pa_cons (pe_comp (N' := ["kid"]) (own := 1) (fr := []) rfl (blk_of (N := ["thing"]) (sc := defScope s_top_variable) rfl rfl rfl (by decide +kernel)) (pi_list (pe_fn F_kids_of (hr.mono (by omega)) rfl pass0 (pa_cons (pv 0) pa_nil))) (own_name (by decide)) (fun _ _ _ => (pg_name (i := 0) (show List.Nodup (["kid"] : List Str) by decide +kernel) rfl (Or.inl rfl))) (fun _ _ _ => pif_nil) (fun _ _ _ => (pe_fn F_top_variable (hr.mono (by omega)) rfl pass0 (pa_cons (pv 0) pa_nil)))) pa_nil) (pk_cons pe_int pk_nil))))), ?_⟩
  try dsimp only [cxK, cxK2]
  refine let2 ?_
  intro _ _
  refine ⟨_, rfl, a, _, _, _, rfl, rfl, SqT.of ha, ea, rfl, _, rfl, ?_⟩
  refine ite2 (fun c => ?_) (fun c => ?_)
  · have c : V.str x = V.str "var" := of_decide_eq_true c
    cases c
    obtain ⟨sh, e1, _, e3, _, e5, _⟩ := wf_shape wf
    rw [shape_var] at e1
    cases e1
    rw [len_n] at e3 e5
    obtain ⟨p0, rfl⟩ : ∃ p0, ps = [p0] := by
      cases ps with
      | nil => simp at e5
      | cons p0 rest => cases rest with
        | nil => exact ⟨p0, rfl⟩
        | cons _ _ => simp at e5
    rw [wfL_cons, Bool.and_eq_true] at e3
    have hn : numD p0 = true := by simpa [dueB] using e3.1
    obtain ⟨i, rfl⟩ : ∃ i, p0 = .int i := by cases p0 <;> first | exact ⟨_, rfl⟩ | simp [numD] at hn
    obtain ⟨u1, us1, rfl, r1, _⟩ := rp
    cases (show u1 = V.int i from r1)
    have hi : decide (99 < i) = bigD (.tup [.str "var", .int i]) := by simp [bigD, bigL]
    exact ⟨_, rfl, a, _, _, .int i, rfl, rfl, SqT.of ha, atI_nat (j := 1) rfl, q i H hi (Same.refl H)⟩
  refine ⟨_, rfl, x, ps, _, rfl, r, hps, fun p1 us H1 _ s1 h1 r1 => ⟨p1, rfl, ⟨us, SqL.of h1⟩, fun p2 hp2 => ?_⟩⟩
  have l1 := r1.length
  refine comp_ints (kidsD x ps).length (fun i z => decide (99 < z) = bigD (((kidsD x ps)[i]?).getD .non)) hp2 (Nat.le_trans hk4 (by decide)) (fun i H2 hi s2 => ?_) fun ns H2 s2 hl hB h2 => ⟨⟨us, SqL.of (s2 _ _ h1), by omega⟩, ?_⟩
  · obtain ⟨di, hdi⟩ : ∃ di, (kidsD x ps)[i]? = some di := ⟨_, List.getElem?_eq_getElem hi⟩
    obtain ⟨ui, hui, rui⟩ := r1.get hdi
    refine ⟨⟨us, ui, SqL.of (s2 _ _ h1), hui⟩, ?_⟩
    rintro y H3 ⟨rfl, hy⟩ R hR
    have hx := hy us (SqL.of (s2 _ _ h1))
    rw [hui] at hx
    cases hx
    exact ⟨_, rfl, di, ui, rfl, rui.mono s2, rz.kid hdi, fun z H4 hz s4 => hR z H4 s4 (by rw [hdi]; exact hz)⟩
  · refine ⟨p2, ns, _, rfl, rfl, SqL.of h2, ?_⟩
    exact q _ H2 (big_end wf (fun z => c (by rw [z]; exact decide_eq_true rfl)) (by decide) hl hB) (s1.trans s2)
theorem c_top_variable (D : Df K mg "top_variable" s_top_variable ["thing"]) (M : Mg mg t) (F_kids_of : Cal P w K mg CX0 "kids_of" (1) ["thing"] spKids) : ∀ n : Nat, Cal P w K mg CX0 "top_variable" (n + 3) ["thing"] (spTop n)
  | 0 => Cal.never D fun vs H Q E ⟨d, v, _, _, h, _⟩ => absurd h.dp (Nat.not_lt_zero _)
  | n + 1 => st_top_variable D M F_kids_of (c_top_variable D M F_kids_of n)
noncomputable def spBounded (C : Addr) (n : Nat) : Sp := fun vs H Q E => ∃ (d : D) (v : V), vs = [v] ∧ Rep H d v ∧ Rz d n ∧ (∀ H', Same H H' → (vastD d || bigD d) = false → Q v H') ∧ (∀ H', Same H H' → (vastD d || bigD d) = true → E (.ref C) none H')
theorem sc_bounded : FnScope ["thing"] ["thing"] (defScope s_bounded) := ⟨rfl, rfl, rfl, by decide +kernel, rfl, by decide +kernel, by decide +kernel⟩
theorem c_bounded {n : Nat} (D : Df K mg "bounded" s_bounded ["thing"]) (M : Mg mg t) (E_Great : ExcK K t.Great) (F_is_vast : Cal P w K mg CX0 "is_vast" (1) ["value"] spVast) (F_top_variable : Cal P w K mg CX0 "top_variable" (n + 3) ["thing"] (spTop n)) : Cal P w K mg (CXo P w) "bounded" (n + 4) ["thing"] (spBounded t.Great n) := by
  refine D.okX sc_bounded (fun vs H Q E h => ?_) (fun base f cdv A outer s H vs Q E hr h => ?_)
  · obtain ⟨d, v, rfl, _⟩ := h
    rfl
  obtain ⟨d, v, rfl, r, rz, q, qe⟩ := h
  obtain ⟨x, ps, k, rfl, wf, hps⟩ := wf_ps rz.wf
  refine ⟨_, (pss_cons (ps_if (L2.PW.pt (pw_or (pt_val (pe_fn F_is_vast (hr.mono (by omega)) rfl pass0 (pa_cons (pv 0) pa_nil))) (pw_or1 (pt_cmpR op_gt (pe_fn F_top_variable (hr.mono (by omega)) rfl pass0 (pa_cons (pv 0) pa_nil)) (pe_gint M.g_MOST_VARIABLE rfl) (nomark _))))) (pss_one (ps_raise (G := (fun H' => E (.ref t.Great) none H')) E_Great M.g_Great (pa_cons pe_str pa_nil) (fun pins σ H s e h' I m q => xe_made I m q))) pss_nil)
      (pss_one (ps_ret (pv 0)))), ?_⟩
  try dsimp only [cxK, cxK2]
  refine let2 ?_
  intro _ _
  refine ⟨_, rfl, _, v, rfl, r, wf_ok wf, rz.kn, fun H1 s1 => ⟨_, rfl, ?_⟩⟩
  refine ite2 (fun c => iteT ⟨by decide, qe H1 s1 (by rw [c]; rfl)⟩) (fun c => ?_)
  refine ⟨_, rfl, _, v, rfl, r.mono s1, rz, fun i H2 hi s2 => ⟨_, _, rfl, rfl, _, rfl, ?_⟩⟩
  have c : vastD (.tup (.str x :: ps)) = false := Bool.eq_false_iff.mpr c
  refine ite2 (fun c2 => ⟨by decide, qe H2 (s1.trans s2) (by rw [← hi, c]; exact c2)⟩) (fun c2 => ⟨_, rfl, q H2 (s1.trans s2) (by rw [← hi, c]; exact Bool.eq_false_iff.mpr c2)⟩)
noncomputable def rebuiltD (x : Str) (ps qs : List D) : D := if qs = [] then .tup (.str x :: ps) else .tup (.str x :: qs)
noncomputable def spRebuilt : Sp := fun vs H Q _ => ∃ (x : Str) (ps qs : List D) (v : V) (a : Addr) (us : List V), vs = [v, .ref a] ∧ Rep H (.tup (.str x :: ps)) v ∧ H a = some (.lst us) ∧ Reps H qs us ∧ qs.length ≤ 10 ∧ ∀ (u : V) (H' : Hp), Same H H' → Rep H' (rebuiltD x ps qs) u → Q u H'
theorem sc_rebuilt : FnScope ["thing", "kids"] ["thing", "kids"] (defScope s_rebuilt) := ⟨rfl, rfl, rfl, by decide +kernel, rfl, by decide +kernel, by decide +kernel⟩
theorem c_rebuilt (D : Df K mg "rebuilt" s_rebuilt ["thing", "kids"]) (M : Mg mg t) : Cal P w K mg CX0 "rebuilt" (1) ["thing", "kids"] spRebuilt := by
  refine D.ok sc_rebuilt (fun vs H Q E h => ?_) (fun base f cdv A outer s H vs Q E hr h => ?_)
  · obtain ⟨x, ps, qs, v, a, us, rfl, _⟩ := h
    rfl
  obtain ⟨x, ps, qs, v, a, us, rfl, r, ha, rq, hl, q⟩ := h
  have lq := rq.length
  obtain ⟨b, us0, rfl, hb, v0, us0, rfl, ⟨rfl, hx⟩, rp⟩ := id r
  refine ⟨_, (pss_cons (ps_if (pt_cmpR op_eq (pe_callB call_len_seq rfl M.n_len bt_len (pa_cons (pv 1) pa_nil)) pe_int (nomark _)) (pss_one (ps_ret (pv 0))) pss_nil)
      (pss_one (ps_ret (pe_op op_catU (pe_tup (pa_cons (pe_ix ix_tup (pv 0) pe_int (fun _ _ => rfl)) pa_nil)) (pe_callTy call_tuple_of rfl M.n_tuple bt_tuple (pa_cons (pv 1) pa_nil)))))), ?_⟩
  try dsimp only [cxK, cxK2]
  refine let2 ?_
  intro _ _
  refine ⟨_, rfl, a, _, rfl, .inl (SqL.of ha), rfl, _, rfl, ?_⟩
  refine ite2 (fun c => ?_) (fun c => ?_)
  · have c : V.int ((us.length : Nat) : Int) = V.int 0 := of_decide_eq_true c
    have hq : qs = [] := by
      injection c with c
      exact List.length_eq_zero_iff.mp (by omega)
    refine ⟨_, rfl, q _ H (Same.refl H) ?_⟩
    unfold rebuiltD
    rw [if_pos hq]
    exact r
  · have hq : qs ≠ [] := fun z => c (by
      subst z
      have : us.length = 0 := lq
      rw [this]
      exact decide_eq_true rfl)
    refine ⟨_, rfl, b, _, _, _, rfl, rfl, SqT.of hb, atI_nat (j := 0) rfl, (by show 1 ≤ sizeLine; decide), fun p1 hp1 => ?_⟩
    have s1 := same_new hp1 (.tup [V.str x])
    refine ⟨_, rfl, a, us, rfl, .inl ⟨SqL.of (s1 _ _ ha), fun p2 hp2 => ?_⟩⟩
    have s2 := same_new hp2 (.tup us)
    refine ⟨p1, p2, _, _, rfl, rfl, s2 _ _ upd_same, upd_same, ?_, fun p3 H3 s3 h3 => ?_⟩
    · rw [List.length_singleton, sizeLine_eq]; omega
    · refine q _ H3 (s1.trans (s2.trans s3)) ?_
      unfold rebuiltD
      rw [if_neg hq]
      exact ⟨p3, _, rfl, h3, _, _, rfl, ⟨rfl, hx⟩, rq.mono (s1.trans (s2.trans s3))⟩
end K40
end
section
namespace L3
open PySem PySem.Spec PyProof.Rows L2
theorem ps_setC {X : Cx} {ix : Nat} {x : Str} {pos' apos : Pos} {tg iter elt : Expr} {ifs : List Expr} {scope : Scope} {pos : Pos} {wi : TI} {g : TG} {tt : TT} {te : TE} {N' : List Str} {own : Nat} {fr : List Nat} (hN : X.N.Nodup) (hix : X.N[ix]? = some x) (hlx : X.env.scope.names.lookup x = some .local) (hc : X.calm = true)
    (S : BlkScope X N' own fr scope) (hi : PI X tg iter wi) (ho : Own own g) (hg : ∀ s3 H3 fp, PG (blkCx X N' scope s3 H3 fp) tg g) (hf : ∀ s3 H3 fp, PIf (blkCx X N' scope s3 H3 fp) ifs tt) (he : ∀ s3 H3 fp, PE (blkCx X N' scope s3 H3 fp) elt te)
    (hsw : swapsWithSole [.Name x pos'] (.ListComp elt [⟨tg, iter, ifs, 0⟩] scope pos) apos.line X.env = pure true := by rfl)
    (hs : ∀ x, foldedSetIterable iter X.env x = pure x := by intro _; rfl) : PS X (.Assign [.Name x pos'] (.ListComp elt [⟨tg, iter, ifs, 0⟩] scope pos) apos) (tAsg (tComp own fr wi g tt te) (gName ix)) := by
  intro pins s σ H D I h
  have hcs : ∀ x ∈ scope.names, x.2 = .free → ∃ c, X.env.cells.lookup x.1 = some c := fun x hx e => I.ok.has x.1 (S.free x hx e)
  rw [exec_Assign_arm]
  refine wpAny_bind (wpAny_standAt (wpAny_bind (wpAny_of_eq hsw ?_)))
  rw [if_pos rfl, arm_evalThenUse_ListComp]
  refine wpAny_bind (wpAny_bind (wpAny_mono (Q := fun _ s' => SP X pins D .next s') ?_ (fun _ s' q => wpAny_pure (wpAny_pure q)) fun _ _ z => z))
  refine wpAny_comprehension_free (use := some _) (Q := fun _ s' => SP X pins D .next s') rfl hs (closedC_eq hcs) S.kind S.loc ?_
  refine thn (hi pins s σ H _ I h) fun v s1 h1 => thn h1 fun itv s2 h2 => ?_
  obtain ⟨it, fp, tn, J, H2, e, I2, T, st2, f2, h2⟩ := h2
  subst e
  refine wpAny_newObj_type (hd := by size_fits) (wpAny_newFunctionEnv S.nocell (by intro y hy; simp at hy) (fun h4 hns hsb => ?_) S.kind)
  have hp0 := I2.hok.fresh (Nat.le_refl s2.heap.objs.size)
  obtain ⟨W, ⟨m0, w0⟩, turn⟩ := h2 _ hp0
  have I3 : Inv X pins σ (upd H2 s2.heap.objs.size (.lst [])) { s2 with heap := s2.heap.push { cls := .type "list", dict := none, data := .seq ([] : List Value).toArray }, toks := s2.toks } := I2.lnew .nil (Nat.zero_le _)
  have lt2 : ∀ b ∈ fp, b < s2.heap.objs.size := fun b hb => let ⟨o, e, _⟩ := T.obj _ _ st2 b hb; Heap.lt_size e
  have up2 : ∀ b o, s2.heap.get? b = some o → ∀ ob : Obj, (s2.heap.push ob).get? b = some o := fun b o e ob => Heap.get?_push_of_some _ e
  have sz3 : (s2.heap.push { cls := .type "list", dict := none, data := .seq ([] : List Value).toArray }).objs.size = s2.heap.objs.size + 1 := Heap.size_push ..
  revert hns hsb I3
  generalize e3 : s2.heap.push { cls := .type "list", dict := none, data := .seq ([] : List Value).toArray } = h3 at sz3 ⊢
  intro hns hsb I3
  have keep : ∀ b o, h3.get? b = some o → h4.get? b = some o := fun b o e => (hsb.2 b (Nat.ne_of_lt (Heap.lt_size e))).trans (Heap.get?_push_of_some _ e)
  have fp3 : ∀ b ∈ fp, FpOk X pins (upd H2 s2.heap.objs.size (.lst [])) b ∧ b < h3.objs.size := fun b hb => by
    refine ⟨⟨?_, (f2 b hb).2⟩, by rw [sz3]; exact Nat.lt_succ_of_lt (lt2 b hb)⟩
    rw [upd_ne (Nat.ne_of_lt (lt2 b hb))]
    exact (f2 b hb).1
  have I4 := blk_inv (t4 := s2.toks + ([] : List (Str × Value)).length) S I3 fp3 keep hns
  have tn4 : tn 0 h4 := T.keep _ _ _ st2 fun b hb o e => keep b o (by rw [← e3]; exact up2 b o e _)
  have stat : ∀ {H' : Hp}, (∀ b ∈ fp, H' b = none) → ∀ b ∈ fp, FpOk (blkCx X N' scope { s2 with heap := h3, toks := s2.toks } (upd H2 s2.heap.objs.size (.lst [])) fp) [] H' b := fun {H'} hn b hb =>
    ⟨hn b hb, Nat.ne_of_lt (fp3 b hb).2, fun z => I4.ok.exfs b hb z, .inl hb, (I4.ok.exf b hb).2, fun p hp => (f2 b hb).2.2.2.2.2 p (List.mem_append_left _ (by simpa using hp))⟩
  have loop : ∀ sx : Shared, Inv (blkCx X N' scope { s2 with heap := h3, toks := s2.toks } (upd H2 s2.heap.objs.size (.lst [])) fp) [] (blkSt own fr σ) (upd H2 s2.heap.objs.size (.lst [])) sx → tn 0 sx.heap →
      codeAny (model X.prog X.w) X.A (.compLoop (.ListComp elt [⟨tg, iter, ifs, 0⟩] scope pos) 0 (.ref it) (.ref s2.heap.objs.size) (blkEnv X scope h3.objs.size)) (compPost (model X.prog X.w) X.A X.xe (some fun v => assignAll v ((assignEach [.Name x pos'] X.env).map (·.2))) (fun _ s' => SP X pins D .next s') (.ref s2.heap.objs.size) h3.objs.size) sx := by
    intro sx Ix tx
    refine compLoop_go (fun n s' => ∃ i acc H', Inv (blkCx X N' scope { s2 with heap := h3, toks := s2.toks } (upd H2 s2.heap.objs.size (.lst [])) fp) [] (blkSt own fr σ) H' s' ∧ tn i s'.heap ∧ (∀ b ∈ fp, H' b = none) ∧ W i n acc H') ?_ m0 ⟨0, [], _, Ix, tx, fun b hb => (fp3 b hb).1.1, w0⟩
    rintro n s5 ⟨i, acc, H5, I5, st5, fr5, w5⟩
    rcases turn i n acc H5 w5 with ⟨stop, qn⟩ | ⟨go, step⟩
    · refine thn (T.done (blkCx X N' scope { s2 with heap := h3, toks := s2.toks } (upd H2 s2.heap.objs.size (.lst [])) fp) rfl rfl rfl hc i [] s5 _ H5 (fun _ _ => False) I5 (stat fr5) st5 stop) fun r s6 ⟨hr, I6⟩ => ?_
      subst hr
      obtain ⟨m6, hm6, _⟩ := id I6.loc
      have I7 : Inv X pins σ H5 s6 := I3.call' (s' := s6) (ch := fp) I6.os (un_sameBut (h2 := s6.heap) I6.base (Nat.le_refl _) ⟨rfl, fun _ _ => rfl⟩) I6.hok I6.bare fun b hb => ⟨(f2 b hb).2.2.2.1, (f2 b hb).2.1, (f2 b hb).2.2.2.2.1, (f2 b hb).2.2.2.2.2⟩
      show wpAny _ _ (assign (.Name x pos') X.env (.ref s2.heap.objs.size)) _ _ _
      refine wpAny_assign_Name (store_ok2 (v := .ref s2.heap.objs.size) I7 hN hix (.inl hlx) rfl (fun s8 I8 ⟨a8, sb8, ha8⟩ => ?_) (.inr hlx))
      have ltc : ∀ y c, X.env.cells.lookup y = some c → c < h3.objs.size := fun y c e => by
        obtain ⟨v, o, eo, _⟩ := I3.cell y c e
        exact Heap.lt_size eo
      have na8 : h3.objs.size ≠ a8 := by
        rcases ha8 with z | z
        · rw [z]; exact Nat.ne_of_gt I3.lt
        · exact Nat.ne_of_gt (ltc _ _ z)
      obtain ⟨o6, es6, ep6, ho6, r6⟩ := hm6
      refine ⟨m6, ⟨o6, es6, ep6, (sb8.2 _ na8).trans ho6, r6⟩, fun h9 hs9 => ?_⟩
      have I9 := I8.turned (h' := h9) (t' := s8.toks) (it := h3.objs.size) (fun b o hb e => (hs9.2 b hb).trans e) I6.free (Nat.ne_of_gt I3.lt) (.inr I3.sz) (fun y c e => Nat.ne_of_lt (ltc y c e)) fun p hp => Nat.ne_of_lt (Heap.lt_size (I3.pin p hp).1)
      exact ⟨_, H5, I9, qn⟩
    · refine thn (T.item (blkCx X N' scope { s2 with heap := h3, toks := s2.toks } (upd H2 s2.heap.objs.size (.lst [])) fp) rfl rfl rfl hc i [] s5 _ H5 (fun _ _ => False) I5 (stat fr5) st5 go) fun r s6 ⟨u, hr, h6⟩ => ?_
      subst hr
      refine thn h6 fun _ s7 ⟨x, H7, I7, r7, y7, st7, fr7⟩ => ?_
      have I7' := I7.pinned (stat fr7) (T.obj _ _ st7)
      refine thn (hg _ _ _ _ s7 _ H7 x u _ I7' r7 (ho _ _ _ _ (step x H7 y7))) fun _ s8 ⟨σ8, H8, I8, q8, l8, k8⟩ => ?_
      have again : ∀ {H9 : Hp} {s9 : Shared}, Inv (blkCx X N' scope { s2 with heap := h3, toks := s2.toks } (upd H2 s2.heap.objs.size (.lst [])) fp) ([] ++ pinsAt fp s7.heap) σ8 H9 s9 →
          Inv (blkCx X N' scope { s2 with heap := h3, toks := s2.toks } (upd H2 s2.heap.objs.size (.lst [])) fp) [] (blkSt own fr σ) H9 s9 ∧ tn (i + 1) s9.heap ∧ ∀ b ∈ fp, H9 b = none := fun {H9 s9} I9 => by
        refine ⟨I9.unpinned.weak l8.symm fun j v e => ?_, T.keep _ _ _ st7 fun b hb o e => (I9.pin (b, o) (List.mem_append_right _ (List.mem_append_right _ (mem_pinsAt hb e)))).1, fun b hb => ?_⟩
        · have hj : own ≤ j := by
            refine Nat.le_of_not_lt fun z => ?_
            unfold blkSt at e
            rw [List.getElem?_append_left (by simpa using z), List.getElem?_replicate] at e
            split at e <;> cases e
          rw [k8 j hj]
          exact e
        · obtain ⟨o, e, _⟩ := T.obj _ _ st7 b hb
          exact (I9.pin (b, o) (List.mem_append_right _ (List.mem_append_right _ (mem_pinsAt hb e)))).2.1
      refine thn (hf _ _ _ _ s8 σ8 H8 _ I8 q8) fun ok s9 ⟨H9, I9, q9⟩ => ?_
      cases ok with
      | false =>
        obtain ⟨m', hm', w9⟩ := q9
        obtain ⟨a1, a2, a3⟩ := again I9
        exact ⟨m', hm', i + 1, acc, H9, a1, a2, a3, w9⟩
      | true =>
        refine thn (he _ _ _ _ s9 σ8 H9 _ I9 q9) fun y s10 ⟨v, H10, I10, r10, hD10, hl10, m', hm', w10⟩ => ?_
        refine thn (mt_append _ s10 σ8 H10 (.ref s2.heap.objs.size) [v] (.ref s2.heap.objs.size) [y] (fun _ Hn => Hn = upd H10 s2.heap.objs.size (.lst (acc ++ [v]))) I10 rfl (.cons r10 .nil) ⟨_, acc, v, rfl, rfl, hD10, hl10, rfl⟩) fun _ s11 ⟨_, H11, I11, _, e11⟩ => ?_
        subst e11
        obtain ⟨a1, a2, a3⟩ := again I11
        exact ⟨m', hm', i + 1, acc ++ [v], _, a1, a2, a3, w10⟩
  exact codeAny_compStart_list (loop _ I4 tn4) (wpAny_mono (T.self X.A 0 _ (fun v s' => v = .ref it ∧ s' = _) (fun _ _ => False) tn4 ⟨rfl, rfl⟩) (fun v s' ⟨e1, e2⟩ => by subst e1; subst e2; exact loop _ I4 tn4) fun _ _ f => f.elim)
end L3
end
section
namespace L3
open PySem PySem.Spec PyProof.Rows L2 KM
end L3
end
section
namespace L3
open PySem PySem.Spec PyProof.Rows L2 KM
section
variable {X : Cx}
theorem strs_are : ∀ {ys : List Str} {us : List Value}, Vals (ys.map V.str) us → StrsAre us ys
  | [], _, .nil => .nil
  | y :: ys, _, .cons r t => by
    obtain ⟨tk, rfl⟩ := (show ∃ t, _ = Value.str y t from r)
    exact .cons y tk (strs_are t)
noncomputable def rJoin (K : PySem.W.Frag) : V → List V → Hp → VK → Prop := fun x vs H Q => ∃ (z : Str) (l : Addr) (ys : List Str), x = .str z ∧ vs = [.ref l] ∧ SqL K H l (ys.map V.str) ∧ (ys.map (·.length)).sum + ys.length * z.length ≤ 16777216 ∧ Q (.str (Txt.join z ys)) H
theorem mt_join : MtR X "str.join" (rJoin X.K) := by
  intro pins s σ H x vs v us Q I rx rv h
  obtain ⟨z, l, ys, rfl, rfl, hl, ho, q⟩ := h
  obtain ⟨u, rfl, ru⟩ := rv.one
  obtain ⟨t, rfl⟩ := (show ∃ t, v = Value.str z t from rx)
  cases ru
  obtain ⟨its, r, p, _⟩ := I.list hl
  exact join_list p.isList (by simpa using strs_are r) ho fun t' k => ⟨.str _, H, I.tok _, ⟨_, rfl⟩, q⟩
end
section
variable {X : Cx} {pins : List (Addr × Obj)} {σ : L2.St} {H : Hp} {s : Shared} {a : Addr} {D : List (Str × V)} {k : Str} {tk : Tok} {A : Around} {E : Value → Shared → Prop}
end
end L3
end
section
namespace L3
open PySem PySem.Spec PyProof.Rows L2 KM
noncomputable abbrev CodeIs (qual : Str) : HO := .tbl (.code qual)
structure CloScope (ps cs : List Str) (scope : Scope) : Prop where
  kind : scope.kind = .function
  co : scope.isCoroutine = false
  gen : scope.isGenerator = false
  nocell : ∀ x ∈ scope.names, x.2 ≠ .cell
  par : ∀ x ∈ ps, scope.names.lookup x = some .local
  nd : (ps ++ cs).Nodup
  free : ∀ x ∈ cs, scope.names.lookup x = some .free
  all : ∀ x, scope.names.lookup x = some .free → x ∈ cs
structure CloAt (h : Heap) (f c : Addr) (name qual : Str) (params : Arguments) (body : List Stmt) (scope : Scope) (cs : List Str) (ws : List V) (cl : List (Str × Addr)) (doc pm ct : Value) : Prop where
  fo : h.get? f = some { cls := .type "function", data := .func (PySem.W.fnX name qual params body scope cl .none .none doc pm none (.ref c) ct) }
  inj : ∀ x y a, cl.lookup x = some a → cl.lookup y = some a → x = y
  own : ∀ x a, cl.lookup x = some a → x ∈ cs
  cell : ∀ (i : Nat) (x : Str), cs[i]? = some x → ∃ (v : V) (a : Addr) (u : Value), ws[i]? = some v ∧ cl.lookup x = some a ∧ RelV v u ∧ h.IsCell a (some u)
  len : ws.length = cs.length
section
variable {h h' : Heap} {f c : Addr} {name qual : Str} {params : Arguments} {body : List Stmt} {scope : Scope} {cs : List Str} {ws : List V} {cl : List (Str × Addr)} {doc pm ct : Value}
theorem CloAt.keeps (C : CloAt h f c name qual params body scope cs ws cl doc pm ct) (k : ∀ b o, h.get? b = some o → h'.get? b = some o) : CloAt h' f c name qual params body scope cs ws cl doc pm ct :=
  ⟨k _ _ C.fo, C.inj, C.own, fun i x e => let ⟨v, a, u, h1, h2, h3, o, h4, h5⟩ := C.cell i x e; ⟨v, a, u, h1, h2, h3, o, k _ _ h4, h5⟩, C.len⟩
end
noncomputable abbrev cloEnv (qual : Str) (scope : Scope) (L f c : Addr) (cl : List (Str × Addr)) : Env := PySem.W.envX qual scope L f (.ref c) cl
noncomputable def cxClo (CX : CXT) (P : Program) (w : World) (K : PySem.W.Frag) (mg : Str → Option Value) (base : Heap) (N : List Str) (qual : Str) (scope : Scope) (f c : Addr) (cl : List (Str × Addr)) (A : Around) (outer : List Env) (s : Shared) (H : Hp) (E : XK) : Cx where
  prog := P
  w := w
  K := K
  mg := mg
  base := base
  A := A.deeper (cloEnv qual scope s.heap.objs.size f c cl)
  N := N
  s₀ := s
  H₀ := H
  env := cloEnv qual scope s.heap.objs.size f c cl
  outer := outer
  stack := cloEnv qual scope s.heap.objs.size f c cl :: outer
  ex := []
  calm := true
  fn := fun _ => false
  pn := []
  xe := fun e s' => wpAny (model P w) (A.deeper (cloEnv qual scope s.heap.objs.size f c cl)) (leaving (cloEnv qual scope s.heap.objs.size f c cl) e) (fun _ s'' => CX A.handled outer H s E e s'') (fun e' s'' => CX A.handled outer H s E e' s'') s'
theorem look_nodup {β : Type} : ∀ {l : List (Str × β)} {x : Str} {v : β}, (l.map (·.1)).Nodup → (x, v) ∈ l → l.lookup x = some v
  | [], _, _, _, h => by cases h
  | (y, w) :: l, x, v, nd, h => by
    rw [List.map_cons, List.nodup_cons] at nd
    rw [List.lookup_cons]
    rcases List.mem_cons.mp h with e | h
    · cases e
      simp
    · have hne : x ≠ y := fun z => nd.1 (by rw [← z]; exact List.mem_map.mpr ⟨(x, v), h, rfl⟩)
      have : (x == y) = false := by simpa using hne
      rw [this]
      exact look_nodup nd.2 h
theorem zip_nodup : ∀ {ps : List Str} (us : List Value), ps.Nodup → ((ps.zip us).map (·.1)).Nodup
  | [], us, _ => by simp
  | p :: ps, [], _ => by simp
  | p :: ps, u :: us, nd => by
    rw [List.nodup_cons] at nd
    rw [List.zip_cons_cons, List.map_cons, List.nodup_cons]
    refine ⟨fun h => nd.1 ?_, zip_nodup us nd.2⟩
    obtain ⟨⟨a, b⟩, hm, e⟩ := List.mem_map.mp h
    cases e
    exact (List.of_mem_zip hm).1
theorem zip_look {ps : List Str} {us : List Value} (nd : ps.Nodup) {i : Nat} {x : Str} {u : Value} (h1 : ps[i]? = some x) (h2 : us[i]? = some u) : (ps.zip us).reverse.lookup x = some u := by
  have hm : (x, u) ∈ (ps.zip us).reverse := List.mem_reverse.mpr (List.mem_of_getElem? (i := i) (by rw [List.getElem?_zip_eq_some]; exact ⟨h1, h2⟩))
  refine look_nodup ?_ hm
  have hz : ((ps.zip us).map (·.1)).Nodup := zip_nodup us nd
  rw [List.map_reverse]
  exact (List.reverse_perm _).nodup_iff.mpr hz
theorem inv_clo {CX : CXT} {P : Program} {w : World} {K : PySem.W.Frag} {mg : Str → Option Value} {base : Heap} {ps cs : List Str} {name qual : Str} {params : Arguments} {body : List Stmt} {scope : Scope} {f c : Addr} {cl : List (Str × Addr)} {doc pm ct : Value} {A : Around} {outer : List Env} {s : Shared} {H : Hp} {E : XK} {us : List Value} {vs ws : List V} {h1 : Heap} {t1 : Nat}
    (S : CloScope ps cs scope) (e0 : Env0 P w K mg base A outer s H) (C : CloAt base f c name qual params body scope cs ws cl doc pm ct) (hl : vs.length = ps.length) (r : Vals vs us) (hns : h1.Ns s.heap.objs.size (fun x => (ps.zip us).reverse.lookup x)) (hk : ∀ b o, s.heap.get? b = some o → h1.get? b = some o) :
    Inv (cxClo CX P w K mg base (ps ++ cs) qual scope f c cl A outer s H E) [] (vs.map some ++ ws.map some) H { s with heap := h1, toks := t1 } := by
  have noA : ∀ b : Addr, b ∉ (cxClo CX P w K mg base (ps ++ cs) qual scope f c cl A outer s H E).ex := fun b z => absurd (show b ∈ ([] : List Addr) from z) (by simp)
  have cellOf : ∀ x a, cl.lookup x = some a → ∃ u, base.IsCell a (some u) := fun x a e => by
    obtain ⟨i, hi⟩ := List.mem_iff_getElem?.mp (C.own x a e)
    obtain ⟨v, a', u, _, e2, _, e4⟩ := C.cell i x hi
    rw [e] at e2
    cases e2
    exact ⟨u, e4⟩
  have up : ∀ {a : Addr} {v : Option Value}, base.IsCell a v → h1.IsCell a v := fun ⟨o, ho, hd⟩ => ⟨o, hk _ _ (e0.bs _ _ ho).1, hd⟩
  refine ⟨⟨e0.mod, S.kind, rfl, rfl, Nat.le_refl _, C.inj, fun y hy => ?_, fun y c z => (by cases z), fun _ => e0.hdl.toP, Around.frames_deeper e0.frames, .inr ⟨rfl, rfl⟩, fun b z => absurd z (noA b), e0.bs, e0.bsz, fun b _ _ => noA b, fun b z => absurd z (noA b), e0.funs, e0.frf⟩,
    rfl, e0.bare, Un.kept hk, ⟨_, hns, fun i y v h1' h2 h3 => ?_⟩, fun y a e => ?_, e0.hok.fresh (Nat.le_refl _), fun y a e => ?_, fun p hp => absurd (show p ∈ ([] : List (Addr × Obj)) from hp) (by simp), e0.hok.kept hk, ?_⟩
  · have hy : scope.names.lookup y = some .cell ∨ scope.names.lookup y = some .free := hy
    rcases hy with hy | hy
    · exact absurd rfl (S.nocell _ (PySem.mem_of_lookup hy))
    · obtain ⟨i, hi⟩ := List.mem_iff_getElem?.mp (S.all y hy)
      obtain ⟨v, a, u, _, e2, _⟩ := C.cell i y hi
      exact ⟨a, e2⟩
  · have h1' : (ps ++ cs)[i]? = some y := h1'
    by_cases hi : i < ps.length
    · rw [List.getElem?_append_left hi] at h1'
      rw [List.getElem?_append_left (by rw [List.length_map]; omega), List.getElem?_map] at h2
      obtain ⟨v', hv', e⟩ := Option.map_eq_some_iff.mp h2
      cases e
      obtain ⟨u, hu, ru⟩ := r.get hv'
      have nd := (List.nodup_append.mp S.nd).1
      exact ⟨u, ru, .inl ⟨S.par y (List.mem_of_getElem? h1'), zip_look nd h1' hu⟩⟩
    · rw [List.getElem?_append_right (by omega)] at h1'
      rw [List.getElem?_append_right (by rw [List.length_map]; omega), List.length_map, hl, List.getElem?_map] at h2
      obtain ⟨v', hv', e⟩ := Option.map_eq_some_iff.mp h2
      cases e
      obtain ⟨v2, a, u, e1, e2, e3, e4⟩ := C.cell _ y h1'
      rw [hv'] at e1
      cases e1
      exact ⟨u, e3, .inr ⟨.inr (S.free y (List.mem_of_getElem? h1')), a, e2, up e4⟩⟩
  · obtain ⟨u, e4⟩ := cellOf y a e
    exact ⟨_, up e4⟩
  · obtain ⟨u, o, ho, _⟩ := cellOf y a e
    exact (e0.bs _ _ ho).2
  · show (vs.map some ++ ws.map some).length = (ps ++ cs).length
    rw [List.length_append, List.length_append, List.length_map, List.length_map, hl, C.len]
theorem clo_run {CX : CXT} {P : Program} {w : World} {K : PySem.W.Frag} {mg : Str → Option Value} {base : Heap} {k : Nat} {ps cs : List Str} {name qual : Str} {params : Arguments} {body : List Stmt} {scope : Scope} {f c : Addr} {cl : List (Str × Addr)} {doc pm ct : Value} {A : Around} {outer : List Env} {s : Shared} {H : Hp} {Q : VK} {E : XK} {us : List Value} {vs ws : List V}
    (S : CloScope ps cs scope) (e0 : Env0 P w K mg base A outer s H) (hr : Room (k + 1) A) (C : CloAt base f c name qual params body scope cs ws cl doc pm ct) (hc : H c = some (CodeIs qual)) (hl : vs.length = ps.length) (r : Vals vs us)
    (hb : BindsTo s (PySem.W.fnX name qual params body scope cl .none .none doc pm none (.ref c) ct) ⟨us, []⟩ (ps.zip us))
    (hbody : Room k (A.deeper (cloEnv qual scope s.heap.objs.size f c cl)) → ∃ t, PSs (cxClo CX P w K mg base (ps ++ cs) qual scope f c cl A outer s H E) body t ∧ t { nx := fun _ H' => Q .non H', rt := Q } (vs.map some ++ ws.map some) H) :
    codeAny (model P w) A (.call (.ref f) ⟨us, []⟩) (CR CX A.handled outer P w H s Q E) s := by
  have lim : s.heap.NoLimit := e0.mod.nolimit.keeps fun b o e => (e0.bs b o e).1
  have hcode : s.heap.CodeRec (.ref c) qual := (show ObjOk P w H s.heap c (CodeIs qual) from e0.hok c _ hc)
  refine codeAny_call_def (fd := PySem.W.fnX name qual params body scope cl .none .none doc pm none (.ref c) ct) (body := body) (binds := ps.zip us) hr.depth (e0.bs _ _ C.fo).1 rfl lim hcode rfl hb S.nocell (fun y hy => S.par y.1 (List.of_mem_zip hy).1) (fun h₁ hns hk => ?_) S.co S.gen S.kind
  obtain ⟨t, ht, hq⟩ := hbody (hr.deeper _)
  have I := inv_clo (CX := CX) (E := E) (t1 := s.toks + (ps.zip us).length) S e0 C hl r hns hk
  refine wpAny_mono (ht [] _ _ H _ I hq) (fun fl s' hs => ?_) fun e s' hs => hs
  have fin : ∀ {σ' : L2.St} {H' : Hp} {v : V} {u : Value}, Inv (cxClo CX P w K mg base (ps ++ cs) qual scope f c cl A outer s H E) [] σ' H' s' → RelV v u → Q v H' → CE outer P w H s Q u s' :=
    fun {σ' H' v u} J rv q => ⟨v, H', J.os, J.bare, J.base, J.hok, rv, q⟩
  cases fl with
  | ret u =>
    obtain ⟨v, σ', H', J, rv, q⟩ := hs
    exact fin J rv q
  | next =>
    obtain ⟨σ', H', J, q⟩ := hs
    exact fin (v := V.non) (u := Value.none) J rfl q
  | brk =>
    obtain ⟨_, _, _, q⟩ := hs
    exact False.elim q
  | cont =>
    obtain ⟨_, _, _, q⟩ := hs
    exact False.elim q
end L3
end
section
namespace L3
open PySem PySem.Spec PyProof.Rows L2 KM
noncomputable def TabOk (H : Hp) (T : Addr) (qual : Str) (pos : Pos) : Prop := H T = some (.tbl (.tab qual (rawInt pos.line) (rawInt pos.col)))
theorem TabOk.mono {H H' : Hp} {T : Addr} {qual : Str} {pos : Pos} (x : TabOk H T qual pos) (s : Same H H') : TabOk H' T qual pos := s _ _ x
noncomputable def NestK (K : PySem.W.Frag) (cc T : Addr) : Prop := PySem.W.codeHdIn K cc T = true
theorem builtins_at {K : PySem.W.Frag} {mg : Str → Option Value} {base h : Heap} {T : Addr} {ps : Array Value} (M : Mod K mg base) (k : ∀ b o, base.get? b = some o → h.get? b = some o) (hT : h.get? T = some (PySem.W.tabObj ps)) : mainGlobals ≠ T ∧ h.BuiltinsAt mg T := by
  obtain ⟨bm, ob, b1, b2, b3, b4, b5, b6⟩ := M.bm
  obtain ⟨o, es, ep, e, hd, _⟩ := M.glob
  have e := k _ _ e
  have b3 := k _ _ b3
  refine ⟨fun q => ?_, bm, ob, b1, b2, fun q => ?_, fun q => ?_, b3, b4, b5, b6⟩
  · rw [q, hT] at e; cases e; cases hd
  · rw [q, e] at b3; cases b3; rw [hd] at b6; cases b6
  · rw [q, hT] at b3; cases b3; cases b4
noncomputable abbrev pnCx (X : Cx) (f : Addr) (fo : Obj) : Cx := { X with pn := (f, fo) :: X.pn }
section
variable {X : Cx} {pins : List (Addr × Obj)} {σ : L2.St} {H : Hp} {s : Shared} {f : Addr} {fo : Obj}
theorem hbp_more {base : Heap} {pn pn' : List (Addr × Obj)} {A : Around} (h : HBp base pn A) (hs : ∀ q ∈ pn, q ∈ pn') : HBp base pn' A := by
  rcases h with h | ⟨a, oe, vs, e1, e2, e3⟩
  · exact .inl h
  · exact .inr ⟨a, oe, vs, e1, e2.imp id (hs _), e3⟩
theorem pn_ok (ok : X.Ok) : (pnCx X f fo).Ok :=
  ⟨ok.mod, ok.kind, ok.glob, ok.blt, ok.above, ok.inj, ok.has, ok.cab, fun h => hbp_more (ok.hd h) fun q hq => List.mem_cons_of_mem _ hq, ok.frames, ok.stk, ok.exf, ok.bs, ok.bsz, ok.noex, ok.exfs, ok.funs, ok.frf⟩
theorem pn_in (I : Inv X pins σ H s) (e : s.heap.get? f = some fo) (n1 : H f = none) (n2 : f ≠ X.env.locals) (n3 : f ∉ X.fs) (n4 : ∀ v, fo.data ≠ .cell v) : Inv (pnCx X f fo) pins σ H s := by
  refine ⟨pn_ok I.ok, I.os, I.bare, I.base, I.loc, I.cell, I.free, I.freeC, fun p hp => ?_, I.hok, I.len⟩
  rcases List.mem_cons.mp (show p ∈ (f, fo) :: (X.pn ++ pins) from hp) with z | z
  · rw [z]
    exact ⟨e, n1, n2, n3, n4⟩
  · exact I.pin p z
theorem pn_out (ok : X.Ok) (I : Inv (pnCx X f fo) pins σ H s) : Inv X pins σ H s := ⟨ok, I.os, I.bare, I.base, I.loc, I.cell, I.free, I.freeC, fun p hp => I.pin p (List.mem_cons_of_mem _ hp), I.hok, I.len⟩
theorem pn_sp (ok : X.Ok) {D : Ends} {fl : Flow} (h : SP (pnCx X f fo) pins D fl s) : SP X pins D fl s := by
  cases fl with
  | next => obtain ⟨σ', H', I, q⟩ := h; exact ⟨σ', H', pn_out ok I, q⟩
  | brk => obtain ⟨σ', H', I, q⟩ := h; exact ⟨σ', H', pn_out ok I, q⟩
  | cont => obtain ⟨σ', H', I, q⟩ := h; exact ⟨σ', H', pn_out ok I, q⟩
  | ret u => obtain ⟨v, σ', H', I, r, q⟩ := h; exact ⟨v, σ', H', pn_out ok I, r, q⟩
end
noncomputable abbrev cloObj (name qual : Str) (params : Arguments) (body : List Stmt) (scope : Scope) (cl : List (Str × Addr)) (doc pm : Value) (c : Addr) (ct : Value) : Obj :=
  { cls := .type "function", data := .func (PySem.W.fnX name qual params body scope cl .none .none doc pm none (.ref c) ct) }
noncomputable def tDef (i : Nat) (T : Addr) (qual : Str) (pos : Pos) (t : Addr → Addr → Value → Value → Value → TS) : TS := fun D σ H => TabOk H T qual pos ∧ ∀ (f c : Addr) (doc pm ct : Value) (H' : Hp), Same H H' → H' c = some (CodeIs qual) → t f c doc pm ct D (σ.set i (some (.ref f))) H'
theorem tabUn {fs ex : List Addr} {H : Hp} {h h' : Heap} {T c : Addr} {ps : TabS} {o : HO} (hT : H T = some (.tbl ps)) (hc : H c = none) (hs : h.objs.size ≤ c) (k : ∀ b u, b ≠ T → h.get? b = some u → h'.get? b = some u) (hT' : ∃ u, h'.get? T = some u) : Un fs ex H (upd H c o) h h' := by
  have nT : ∀ b, H b = none → b ≠ T := fun b n z => by rw [z, hT] at n; cases n
  refine ⟨fun b u q n _ _ => k b u (nT b n) q, fun b u q n _ _ => ⟨u.slots, k b u (nT b n) q⟩, fun b u q n _ => ?_, fun b u q _ => ?_, fun b xs q => ?_, fun b u xs q => ?_, fun b ps' q => ?_⟩
  · rw [upd_ne (Nat.ne_of_lt (Nat.lt_of_lt_of_le (Heap.lt_size q) hs))]
    exact n
  · by_cases z : b = T
    · rw [z]; exact hT'
    · exact ⟨u, k b u z q⟩
  all_goals
    rw [upd_ne (ne_of_none q hc)]
    exact q
theorem pss_def {X : Cx} {i : Nat} {cc T : Addr} {name qual : Str} {params : Arguments} {body : List Stmt} {scope : Scope} {pos : Pos} {rest : List Stmt} {cl : List (Str × Addr)} {t : Addr → Addr → Value → Value → Value → TS}
    (NK : NestK X.K cc T) (hcode : X.env.code = .ref cc) (hN : X.N.Nodup) (hi : X.N[i]? = some name) (hx : X.env.scope.names.lookup name = some .local) (hq : qualnameIn X.env name name = qual) (hcl : closureFor scope X.env = pure cl)
    (hr : ∀ (f c : Addr) (doc pm ct : Value), PSs (pnCx X f (cloObj name qual params body scope cl doc pm c ct)) rest (t f c doc pm ct))
    (hd0 : params.defaults = [] := by rfl) (hk0 : params.kw_defaults = [] := by rfl) (ha : annTrees params none X.env = [] := by rfl) :
    PSs X (.FunctionDef name params body [] none [] scope none name pos :: rest) (tDef i T qual pos t) := by
  intro pins s σ H D I h
  obtain ⟨hT, h⟩ := h
  have key : ∀ (f c : Addr) (doc pm ct : Value) (H' : Hp) (s1 : Shared), Inv X pins σ H' s1 → s1.heap.get? f = some (cloObj name qual params body scope cl doc pm c ct) → H' f = none → f ≠ X.env.locals → f ∉ X.fs → Same H H' → H' c = some (CodeIs qual) →
      wpAny (model X.prog X.w) X.A (storeName X.env name (.ref f)) (fun _ s2 => wpAny (model X.prog X.w) X.A (execs rest X.env) (SP X pins D) X.xe s2) X.xe s1 := fun f c doc pm ct H' s1 I1 e1 e2 e3 e4 sx hc => by
    have I2 := pn_in (fo := cloObj name qual params body scope cl doc pm c ct) I1 e1 e2 e3 e4 (fun v z => by cases z)
    refine store_ok (X := pnCx X f (cloObj name qual params body scope cl doc pm c ct)) (i := i) (v := .ref f) I2 hN hi (.inl hx) rfl (fun s2 I3 => ?_) (.inr hx)
    exact wpAny_mono (hr f c doc pm ct pins s2 _ H' D I3 (h f c doc pm ct H' sx hc)) (fun fl s3 q => pn_sp I.ok q) fun _ _ z => z
  have KX := I.kIn
  have hg : s.heap.Ns mainGlobals X.mg := I.mod.glob.keeps I.bk
  obtain ⟨m, ⟨oL, esL, epL, hoL, _⟩, _⟩ := id I.loc
  have hlL : X.env.locals < s.heap.objs.size := Heap.lt_size hoL
  have frn : ∀ b : Addr, s.heap.objs.size ≤ b → b ∉ X.fs := fun b hb hm => by
    obtain ⟨_, o', ho, _⟩ := I.funs.mem hm
    exact absurd (Heap.lt_size ho) (Nat.not_lt.mpr hb)
  have hd : PySem.W.CodeHd s.heap cc T := PySem.W.codeHd_of_K KX NK
  refine wpAny_execs_cons (PySem.W.nestDef_K hd0 hk0 ha ?_)
  rw [hq]
  rcases (show ObjOk X.prog X.w H s.heap T (.tbl (.tab qual (rawInt pos.line) (rawInt pos.col))) from I.hok T _ hT) with hP | ⟨c, hP, hc⟩
  · have hP : s.heap.get? T = some (PySem.W.tabObj #[]) := hP
    obtain ⟨hne, hbt⟩ := builtins_at I.mod I.bk hP
    refine PySem.W.makeFunction_K hcl I.ok.glob hg hcode hd hP trivial rfl hne hbt fun c' ctv doc h' tk hx1 hge hlt hrec hP' => ?_
    have hcn : H c' = none := I.hok.fresh hge
    have hkp : ∀ b u, b ≠ T → s.heap.get? b = some u → (h'.push (PySem.W.fnMade name qual params body scope cl doc ((X.mg "__name__").getD .none) c' ctv)).get? b = some u := fun b u n e => Heap.get?_push_of_some _ (hx1 b u n e)
    have hPp : (h'.push (PySem.W.fnMade name qual params body scope cl doc ((X.mg "__name__").getD .none) c' ctv)).get? T = some (PySem.W.tabObj (#[] ++ #[rawInt pos.line, rawInt pos.col, .ref c'])) := Heap.get?_push_of_some _ hP'
    have nTc : T ≠ c' := ne_of_none hT hcn
    have hcode' := hrec.push (PySem.W.fnMade name qual params body scope cl doc ((X.mg "__name__").getD .none) c' ctv)
    have hok' : HOk X.prog X.w (upd H c' (CodeIs qual)) (h'.push (PySem.W.fnMade name qual params body scope cl doc ((X.mg "__name__").getD .none) c' ctv)) := fun b u e => by
      by_cases hb : b = c'
      · rw [hb, upd_same] at e
        cases e
        rw [hb]
        exact hcode'
      · rw [upd_ne hb] at e
        by_cases hb2 : b = T
        · rw [hb2, hT] at e
          cases e
          rw [hb2]
          exact .inr ⟨c', hPp, upd_same⟩
        · have nT2 : ∀ c2, H c2 = some (.own b) → c2 ≠ T := fun c2 q z => by rw [z, hT] at q; cases q
          refine (I.hok b u e).stay (fun c2 o hc2 q => hkp c2 o ?_ q) (fun c2 q => ?_) fun c2 xs q => ?_
          · rcases hc2 with rfl | q2
            · exact hb2
            · exact nT2 _ q2
          · rw [upd_ne (ne_of_none q hcn)]; exact q
          · rw [upd_ne (ne_of_none q hcn)]; exact q
    have I1 := I.un (t' := tk) (tabUn (o := CodeIs qual) hT hcn hge hkp ⟨_, hPp⟩) hok'
    have hsz : s.heap.objs.size ≤ h'.objs.size := Nat.le_trans hge (Nat.le_of_lt hlt)
    refine key h'.objs.size c' _ _ _ _ _ I1 (Heap.get?_push_size _ rfl) ?_ (Nat.ne_of_gt (Nat.lt_of_lt_of_le hlL hsz)) (frn _ hsz) (fun b o e => ?_) upd_same
    · rw [upd_ne (Nat.ne_of_gt hlt)]
      exact I.hok.fresh hsz
    · rw [upd_ne (ne_of_none e hcn)]; exact e
  · have hP : s.heap.get? T = some (PySem.W.tabObj #[rawInt pos.line, rawInt pos.col, .ref c]) := hP
    obtain ⟨hne, hbt⟩ := builtins_at I.mod I.bk hP
    refine PySem.W.makeFunction_hit (cv := .ref c) hcl I.ok.glob hg hcode hd hP ?_ ?_ hbt fun ctv doc h' tk hk' hsz => ?_
    · simp [TriplesOk, rawInt]
    · simp [codeAmong, rawInt]
    have I1 := I.kept (h' := h'.push { cls := .type "function", data := .func (PySem.W.fnX name qual params body scope cl .none .none doc ((X.mg "__name__").getD .none) none (.ref c) ctv) }) (t' := tk) fun b u e => Heap.get?_push_of_some _ (hk' b u e)
    exact key h'.objs.size c _ _ _ _ _ I1 (Heap.get?_push_size _ rfl) (I.hok.fresh hsz) (Nat.ne_of_gt (Nat.lt_of_lt_of_le hlL hsz)) (frn _ hsz) (fun b o e => e) hc
end L3
end
section
namespace L3
open PySem PySem.Spec PyProof.Rows L2 KM
noncomputable def CalB (P : Program) (w : World) (K : PySem.W.Frag) (mg : Str → Option Value) (CX : CXT) (x : Str) (k : Nat) (ps : List Str) (sp : Heap → Sp) : Prop :=
  ∃ f fd, (∀ base, FnOk P w K mg base CX k f fd ps (sp base)) ∧ mg x = some (.ref f) ∧ PySem.W.keepIn K (.ref f) = true ∧ Binds K fd ps []
section
variable {P : Program} {w : World} {K : PySem.W.Frag} {mg : Str → Option Value}
theorem Df.okB {x : Str} {st : Stmt} {N ps : List Str} {k : Nat} {sp : Heap → Sp} (D : Df K mg x st ps) (S : FnScope N ps (defScope st)) (len : ∀ base vs H Q E, sp base vs H Q E → vs.length = ps.length)
    (hbody : ∀ (base : Heap) (f : Addr) (cdv : Value) (A : Around) (outer : List Env) (s : Shared) (H : Hp) (vs : List V) (Q : VK) (E : XK), Room k (A.deeper (envOfC x (defScope st) s.heap.objs.size f cdv)) → sp base vs H Q E →
      ∃ t, PSs (cxOf CX0 P w K mg base N x (defScope st) f cdv A outer s H E).nox (defBody st) t ∧ t { nx := fun _ H' => Q .non H', rt := Q } (start N vs) H) : CalB P w K mg CX0 x (k + 1) ps sp := by
  obtain ⟨f, fd, F, m, b⟩ := D
  exact ⟨f, fd, fun base => F.ok S (len base) (hbody base f), m, F.kp, b⟩
theorem CalB.never {x : Str} {st : Stmt} {ps : List Str} {sp : Heap → Sp} {k : Nat} {CX : CXT} (D : Df K mg x st ps) (no : ∀ base vs H Q E, ¬ sp base vs H Q E) : CalB P w K mg CX x k ps sp := by
  obtain ⟨f, fd, F, m, b⟩ := D
  exact ⟨f, fd, fun base => ⟨fun vs H Q E h => absurd h (no base vs H Q E), fun A outer s H args us vs Q E _ _ _ _ h => absurd h (no base vs H Q E)⟩, m, F.kp, b⟩
end
structure BaseUp (X : Cx) (σ : L2.St) (b' : Heap) : Prop where
  old : ∀ b o, X.base.get? b = some o → b'.get? b = some o
  pin : ∀ q ∈ X.pn, b'.get? q.1 = some q.2
  cell : ∀ (i : Nat) (x : Str) (v : V), X.N[i]? = some x → σ[i]? = some (some v) → X.env.kindOf x = some .cell → X.fn x = true → ∃ c u, X.env.cells.lookup x = some c ∧ RelV v u ∧ b'.IsCell c (some u)
theorem baseUp {X : Cx} {pins : List (Addr × Obj)} {σ : L2.St} {H : Hp} {s : Shared} (I : Inv X pins σ H s) : BaseUp X σ (hidX s.heap H (frs X.stack)) := by
  have nf : ∀ b o, X.base.get? b = some o → b ∉ frs X.stack := fun b o e z => by
    rcases List.mem_cons.mp (I.stkSub b z) with z | z
    · have := Heap.lt_size e
      rw [z] at this
      exact absurd this (Nat.not_lt.mpr (Nat.le_trans I.ok.bsz I.ok.above))
    · exact I.ok.nofr e z
  refine ⟨fun b o e => hidX_get (I.bs b o e).1 (I.bs b o e).2 (nf b o e), fun q hq => ?_, fun i x v h1 h2 h3 h4 => ?_⟩
  · obtain ⟨q1, q2, q3, q4, _⟩ := I.pin q (List.mem_append_left _ hq)
    refine hidX_get q1 q2 fun z => ?_
    rcases List.mem_cons.mp (I.stkSub _ z) with z | z
    · exact q3 z
    · exact q4 z
  · obtain ⟨m, hn, hl⟩ := I.loc
    obtain ⟨u, r, l⟩ := hl i x v h1 h2 (.inr (.inl h3))
    rcases l with ⟨hk, _⟩ | ⟨_, c, hc, o, ho, hd⟩
    · rw [h3] at hk; cases hk
    · refine ⟨c, u, hc, r, o, hidX_get ho (I.freeC x c hc) fun z => ?_, hd⟩
      rcases List.mem_cons.mp (I.stkSub _ z) with z | z
      · exact I.cne x c hc z
      · obtain ⟨_, o', ho', _⟩ := I.ok.funs.mem z
        exact absurd (Heap.lt_size ho') (Nat.not_lt.mpr (I.ok.cab x c h4 hc))
noncomputable def tCallB (X : Cx) (sp : Heap → Sp) (E : XK) (t : TA) : TE := fun σ H Q => t σ H fun vs H1 => ∀ b', BaseUp X σ b' → sp b' vs H1 Q E
theorem pe_fnB {X : Cx} {CX : CXT} {x : Str} {k : Nat} {ps : List Str} {sp : Heap → Sp} {E : XK} {e : Expr} {es : List Expr} {t : TA} {p pos : Pos} (F : CalB X.prog X.w X.K X.mg CX x k ps sp) (hr : Room k X.A) (hg : Gl X x) (hx : Passes CX X E)
    (ha : PA X (e :: es) t) (hdb : (x == ("__debug__" : Str)) = false := by decide) (he : starEach (e :: es) X.env = (false, eval e X.env) :: starEach es X.env := by rfl) (hpl : (backTo pos (starEach es X.env)).any (·.1) = false := by rfl) (hc : X.calm = true := by rfl) :
    PE X (.Call (.Name x p) (e :: es) [] pos) (tCallB X sp E t) := by
  obtain ⟨f, fd, F, m, kp, b⟩ := F
  intro pins s σ H Q I h
  refine wpAny_Call_Name_kw (ld_glob I hg m ?_ hdb)
  refine PySem.W.callWith_K (h₀ := X.base) I.ok.mod.kin kp (thn (ha pos pins s σ H _ I h) fun us s1 ⟨vs, H1, I1, r, q⟩ => ⟨I1.kIn, ?_⟩) he hpl
  have q := q _ (baseUp I1)
  have hl : us.length = ps.length := by rw [← r.length]; exact (F (hidX s1.heap H1 (frs X.stack))).len _ _ _ _ q
  have bt := b s1 us I1.kIn (by rw [List.append_nil]; exact hl)
  rw [List.append_nil] at bt
  refine wpAny_call (codeAny_mono ((F _).run X.A X.stack s1 H1 ⟨us, []⟩ us vs Q E hr (env1 I1 hc) bt r q) fun r' s' hq => ?_)
  cases r' with
  | error e => exact hx pins σ H1 s1 e s' I1 hq
  | ok fl =>
    cases fl with
    | ret u => exact I1.after hq
    | next => exact False.elim hq
    | brk => exact False.elim hq
    | cont => exact False.elim hq
noncomputable def CloCal (P : Program) (w : World) (K : PySem.W.Frag) (mg : Str → Option Value) (base : Heap) (k : Nat) (f : Addr) (sp : Sp) : Prop :=
  PySem.W.FnAt f base ∧ ∀ (base' : Heap), (∀ b o, base.get? b = some o → base'.get? b = some o) → ∀ (A : Around) (outer : List Env) (s : Shared) (H : Hp) (us : List Value) (vs : List V) (Q : VK), Room k A → Env0 P w K mg base' A outer s H → Vals vs us → sp vs H Q E0 →
    codeAny (model P w) A (.call (.ref f) ⟨us, []⟩) (CR CX0 A.handled outer P w H s Q E0) s
theorem CloCal.up {P : Program} {w : World} {K : PySem.W.Frag} {mg : Str → Option Value} {base base' : Heap} {k : Nat} {f : Addr} {sp : Sp} (C : CloCal P w K mg base k f sp) (k' : ∀ b o, base.get? b = some o → base'.get? b = some o) : CloCal P w K mg base' k f sp :=
  ⟨let ⟨oc, od, fd, sl, e⟩ := C.1; ⟨oc, od, fd, sl, k' _ _ e⟩, fun b'' h => C.2 b'' fun b o e => h b o (k' b o e)⟩
noncomputable def tCallV (i : Nat) (f : Addr) (sp : Sp) (t : TA) : TE := fun σ H Q => σ[i]? = some (some (.ref f)) ∧ t σ H fun vs H1 => sp vs H1 Q E0
theorem pe_callv {X : Cx} {x : Str} {k i : Nat} {f : Addr} {sp : Sp} {e : Expr} {es : List Expr} {t : TA} {p pos : Pos} (C : CloCal X.prog X.w X.K X.mg X.base k f sp) (hr : Room k X.A) (hN : X.N[i]? = some x) (hv : Vis X.env.scope x)
    (ha : PA X (e :: es) t) (hdb : (x == ("__debug__" : Str)) = false := by decide) (hcd : (x == ("__classdict__" : Str)) = false := by decide) (he : starEach (e :: es) X.env = (false, eval e X.env) :: starEach es X.env := by rfl) (hpl : (backTo pos (starEach es X.env)).any (·.1) = false := by rfl) (hc : X.calm = true := by rfl) :
    PE X (.Call (.Name x p) (e :: es) [] pos) (tCallV i f sp t) := by
  intro pins s σ H Q I h
  obtain ⟨hσ, h⟩ := h
  refine wpAny_Call_Name_kw (wpAny_mono (pe_var (X := X) (i := i) hN hv hdb hcd pins s σ H (fun v H' => v = .ref f ∧ H' = H) I ⟨.ref f, hσ, rfl, rfl⟩) (fun u s0 hu => ?_) fun _ _ z => z)
  obtain ⟨v, H0, I0, ru, rfl, rfl⟩ := hu
  cases (show u = Value.ref f from ru)
  have fnat : ∀ {pins' : List (Addr × Obj)} {σ' : L2.St} {H' : Hp} {s' : Shared}, Inv X pins' σ' H' s' → PySem.W.FnAt f s'.heap := fun {pins' σ' H' s'} J => let ⟨oc, od, fd, sl, e⟩ := C.1; ⟨oc, od, fd, sl, (J.bs _ _ e).1⟩
  refine PySem.W.callWith_F (fnat I0) (thn (ha pos pins s0 σ H0 _ I0 h) fun us s1 ⟨vs, H1, I1, r, q⟩ => ⟨fnat I1, ?_⟩) he hpl
  have B := baseUp I1
  refine wpAny_call (codeAny_mono (C.2 _ B.old X.A X.stack s1 H1 us vs Q hr (env1 I1 hc) r q) fun r' s' hq => ?_)
  cases r' with
  | error e => exact hq.elim
  | ok fl =>
    cases fl with
    | ret u => exact I1.after hq
    | next => exact False.elim hq
    | brk => exact False.elim hq
    | cont => exact False.elim hq
end L3
end
section
namespace L3
open PySem PySem.Spec PyProof.Rows L2 KM
noncomputable abbrev Tabs := List (Addr × Addr × TabS)
structure TabsOk (K : PySem.W.Frag) (h : Heap) (ts : Tabs) : Prop where
  emp : ∀ q ∈ ts, h.get? q.2.1 = some (PySem.W.tabObj #[])
  hd : ∀ q ∈ ts, PySem.W.codeHdIn K q.1 q.2.1 = true
  out : ∀ q ∈ ts, K.lookup q.2.1 = none
  tab : ∀ q ∈ ts, ∃ x l c, q.2.2 = .tab x l c
noncomputable def firstH (K : PySem.W.Frag) (a : Addr) (o : Obj) (xs : List V) (ts : Tabs) : Hp := fun b => if b = a ∧ K.lookup a = none then some (.frz o (.lst xs)) else ((ts.map (·.2)).lookup b).map HO.tbl
theorem codeTab {K : PySem.W.Frag} {h : Heap} {c T : Addr} (X : K.In h) (e : PySem.W.codeHdIn K c T = true) : isCodeTable h T := by
  obtain ⟨o, vs, f, tf, fl, tg, b, n, tt, e1, e2, e3, e4, _⟩ := PySem.W.codeHd_of_K X e
  exact ⟨c, o, vs, e1, e2, e3, e4⟩
theorem mem_look {β : Type} : ∀ {l : List (Addr × β)} {x : Addr} {v : β}, l.lookup x = some v → (x, v) ∈ l
  | [], _, _, h => by simp at h
  | (y, w) :: l, x, v, h => by
    rw [List.lookup_cons] at h
    by_cases e : (x == y) = true
    · rw [e] at h
      have := beq_iff_eq.mp e
      subst this
      cases h
      exact List.mem_cons_self
    · rw [show (x == y) = false by simpa using e] at h
      exact List.mem_cons_of_mem _ (mem_look h)
theorem look_mem {ts : Tabs} {b : Addr} {s : TabS} (e : (ts.map (·.2)).lookup b = some s) : ∃ q ∈ ts, q.2.1 = b ∧ q.2.2 = s := by
  have := mem_look e
  obtain ⟨q, hq, z⟩ := List.mem_map.mp this
  exact ⟨q, hq, by rw [z], by rw [z]⟩
theorem law_callT {P : Program} {w : World} {K : PySem.W.Frag} {mg mb : Str → Option Value} {k : Nat} {fa a : Addr} {fd : FuncData} {x : Str} {sp : Sp} {s₁ : Shared} {vs : List Value} {ns : List Int} {ts : Tabs}
    (KX : K.In s₁.heap) (hns : s₁.heap.Ns mainGlobals mg) (hb : s₁.heap.Ns builtinsNs mb) (hbb : ∀ x : Str, x ≠ "__name__" → mb x = bootBuiltins x) (hlim : s₁.heap.NoLimit) (hbm : BmK mg s₁.heap) (hg : s₁.gens = #[])
    (ha : s₁.heap.get? a = some { cls := .type "list", data := .seq vs.toArray }) (hi : IntsAre vs ns) (hl : ns.length ≤ sizeLine) (hr : Room k callerA) (T : TabsOk K s₁.heap ts)
    (F : ∀ base : Heap, FnOk P w K mg base CX0 k fa fd [x] sp) (hbind : ∀ (s : Shared) (u : Value), BindsTo s fd ⟨[u], []⟩ [(x, u)])
    (hsp : ∀ H : Hp, (∀ q ∈ ts, (ts.map (·.2)).lookup q.2.1 = some q.2.2 → H q.2.1 = some (.tbl q.2.2)) → SqL K H a (ns.map V.int) → sp [.ref a] H (fun v _ => v = .bl true) E0) :
    codeAny (model P w) callerA (.call (.ref fa) ⟨[.ref a], []⟩) (fun r s' => r = .ok (.ret (.bool true)) ∧ OldK s₁.heap s'.heap ∧ s'.os = s₁.os ∧ AllBare s'.gens) s₁ := by
  have rv := vals_ints hi
  have lenV := hi.length
  let o : Obj := { cls := .type "list", data := .seq vs.toArray }
  let H := firstH K a o (ns.map V.int) ts
  have nT : ∀ q ∈ ts, q.2.1 ≠ a := fun q hq z => by
    have := T.emp q hq
    rw [z, ha] at this
    cases this
  have HT : ∀ q ∈ ts, (ts.map (·.2)).lookup q.2.1 = some q.2.2 → H q.2.1 = some (.tbl q.2.2) := fun q hq e => by
    show (if q.2.1 = a ∧ K.lookup a = none then _ else _) = _
    rw [if_neg fun z => nT q hq z.1, e]
    rfl
  -- what may be tracked
  have only : ∀ b u, H b = some u → (b = a ∧ K.lookup a = none ∧ u = .frz o (.lst (ns.map V.int))) ∨ ∃ q ∈ ts, q.2.1 = b ∧ u = .tbl q.2.2 := fun b u e => by
    have e : (if b = a ∧ K.lookup a = none then some (.frz o (.lst (ns.map V.int))) else ((ts.map (·.2)).lookup b).map HO.tbl) = some u := e
    by_cases hb : b = a ∧ K.lookup a = none
    · rw [if_pos hb] at e
      exact .inl ⟨hb.1, hb.2, (Option.some.inj e).symm⟩
    · rw [if_neg hb] at e
      obtain ⟨s, e1, e2⟩ := Option.map_eq_some_iff.mp e
      obtain ⟨q, hq, r1, r2⟩ := look_mem e1
      exact .inr ⟨q, hq, r1, by rw [r2, e2]⟩
  have objs : ∀ b u, H b = some u → (b = a) ∨ s₁.heap.get? b = some (PySem.W.tabObj #[]) := fun b u e => by
    rcases only b u e with ⟨z, _⟩ | ⟨q, hq, z, _⟩
    · exact .inl z
    · exact .inr (by rw [← z]; exact T.emp q hq)
  have free : ∀ {b : Addr} {ob : Obj}, s₁.heap.get? b = some ob → ob.data ≠ .seq vs.toArray → ob.data ≠ .fields #[] → H b = none := fun {b ob} e n1 n2 => by
    cases q : H b with
    | none => rfl
    | some u =>
      rcases objs b u q with z | z
      · rw [z, ha] at e; cases e; exact absurd rfl n1
      · rw [e] at z; cases z; exact absurd rfl n2
  have nsK : ∀ {b : Addr} {m : Str → Option Value}, s₁.heap.Ns b m → (hidT s₁.heap H).Ns b m := fun {b m} ⟨ob, es, ep, e, d, r⟩ => ⟨ob, es, ep, hidT_get e (free e (by rw [d]; simp) (by rw [d]; simp)), d, r⟩
  have hKb : K.In (hidT s₁.heap H) := fun b ob e => hidT_get (KX b ob e) (by
    cases q : H b with
    | none => rfl
    | some u =>
      rcases only b u q with ⟨z, z2, _⟩ | ⟨q', hq, z, _⟩
      · rw [z, z2] at e; cases e
      · rw [← z, T.out q' hq] at e; cases e)
  have hok : HOk P w H s₁.heap := fun b u e => by
    rcases only b u e with ⟨z, _, rfl⟩ | ⟨q, hq, z, rfl⟩
    · rw [z]
      exact ⟨ha, by rw [List.length_map]; exact hl, vs, _, rv, ha⟩
    · obtain ⟨x', l, c, ex⟩ := T.tab q hq
      rw [ex]
      exact .inl (by rw [← z]; exact T.emp q hq)
  have hS : SqL K H a (ns.map V.int) := by
    cases hk : K.lookup a with
    | none =>
      refine .inl (.inr ⟨o, ?_⟩)
      show (if a = a ∧ K.lookup a = none then _ else _) = _
      rw [if_pos ⟨rfl, hk⟩]
    | some ob =>
      have e := KX a ob hk
      rw [ha] at e
      cases e
      exact .inr ⟨_, vs.toArray, _, hk, rfl, rfl, rfl, by rw [List.size_toArray, lenV]; exact hl, by simpa using rv⟩
  have hM : Mod K mg (hidT s₁.heap H) := ⟨hKb, nsK hns, ⟨mb, nsK hb, hbb⟩, let ⟨mc, h1, h2⟩ := hlim; ⟨mc, nsK h1, h2⟩,
    let ⟨bm, ob, e1, e2, e3, e4⟩ := hbm; ⟨bm, ob, e1, e2, hidT_get e3 (free e3 (by rw [e4.2.2]; simp) (by rw [e4.2.2]; simp)), e4⟩⟩
  have e0 : Env0 P w K mg (hidT s₁.heap H) callerA [] s₁ H := ⟨rfl, hM, fun b ob e => of_hidT e, Nat.le_of_eq (hidT_size _ _), trivial, fun b hb => absurd (show b ∈ ([] : List Addr) from hb) (by simp), hok, .of_eq hg, .inl rfl⟩
  refine codeAny_mono ((F _).run callerA [] s₁ H ⟨[.ref a], []⟩ [.ref a] [.ref a] _ _ hr e0 (hbind s₁ (.ref a)) (.cons rfl .nil) (hsp H HT hS)) fun r s' h => ?_
  cases r with
  | error e => exact (show False from h).elim
  | ok fl =>
    cases fl with
    | next => exact False.elim h
    | brk => exact False.elim h
    | cont => exact False.elim h
    | ret u =>
      obtain ⟨v, H', os, bare, un, hok', r', q⟩ := h
      have q' : v = .bl true := q
      subst q'
      obtain rfl : u = Value.bool true := r'
      refine ⟨rfl, ⟨fun b ob e => ?_, fun b ob e => un.there b ob e (by simp)⟩, os, bare⟩
      cases q : H b with
      | none => exact .inl (un.keep b ob e q (by intro z; exact absurd (show b ∈ ([] : List Addr) from z) (by simp)) (by simp))
      | some u =>
        rcases only b u q with ⟨z, _, rfl⟩ | ⟨q', hq, z, rfl⟩
        · obtain ⟨e2, _⟩ := hok' b _ (un.frzs b o _ q)
          rw [z, ha] at e
          cases e
          exact .inl e2
        · obtain ⟨x', l, c, ex⟩ := T.tab q' hq
          have em := T.emp q' hq
          rw [z, e] at em
          cases em
          rw [ex] at q
          rcases hok' b _ (un.tbls b _ q) with e2 | ⟨c', e2, _⟩
          · exact .inl e2
          · exact .inr (.inl ⟨by rw [← z]; exact codeTab KX (T.hd q' hq), rfl, #[], _, rfl, by rw [Array.empty_append]; exact e2⟩)
theorem walk_ofT {l : PySem.W.OpenLaw} {n k : Nat} {q : Program} {loose : List Str} {XP : (Str → Option Value) → Heap → Prop} {YP : World → Heap → Prop} {d : DefRec} {K : Params → PySem.W.Frag} {sp : World → Sp} {x : Str} {ts : Tabs}
    (hn : l.most = some n) (hn2 : n ≤ sizeLine) (hdf : d.params.defaults = []) (hr : Room k callerA)
    (hY : ∀ (w : World) (h : Heap), YP w h → (K w.params).In h) (hT : ∀ (w : World) (h : Heap), YP w h → TabsOk (K w.params) h ts)
    (F : ∀ (w : World) (mg : Str → Option Value) (fa : Addr) (h : Heap), (K w.params).In h → h.Ns mainGlobals mg → mg d.name = some (.ref fa) →
      ∃ fd : FuncData, (∀ (s : Shared) (u : Value), BindsTo s fd ⟨[u], []⟩ [(x, u)]) ∧ ∀ base : Heap, FnOk l.prog w (K w.params) mg base CX0 k fa fd [x] (sp w))
    (hsp : ∀ (w : World) (H : Hp) (a : Addr) (ns : List Int), ns.length ≤ n → (∀ q ∈ ts, (ts.map (·.2)).lookup q.2.1 = some q.2.2 → H q.2.1 = some (.tbl q.2.2)) → SqL (K w.params) H a (ns.map V.int) → sp w [.ref a] H (fun v _ => v = .bl true) E0) :
    PySem.W.WalkO q loose XP YP l.row.toRowW d [] (fun f vs => PySem.call f vs) := by
  refine Att.attach_call hn hdf fun w s₀ s₁ mg mb fa o pm cd doc a vs ns G Y ho hd hcd hmg hobj hints hlen hg => ?_
  have KX := hY w _ Y
  obtain ⟨fd, hb, hF⟩ := F w mg fa _ KX G.T.g hmg
  exact law_callT KX G.T.g G.T.b G.T.builtins G.T.nolimit G.T.bmain hg hobj hints (Nat.le_trans hlen hn2) hr (hT w _ Y) hF hb fun H hO hS => hsp w H a ns hlen hO hS
noncomputable def Nst (K : PySem.W.Frag) (f T : Addr) : Prop := ∃ oc od fd osl cc, K.lookup f = some ⟨oc, od, .func fd, osl⟩ ∧ fd.code = .ref cc ∧ NestK K cc T
noncomputable def DfN (K : PySem.W.Frag) (mg : Str → Option Value) (x : Str) (st : Stmt) (ps : List Str) (T : Addr) : Prop := ∃ f fd, Fun K x x st f fd ∧ mg x = some (.ref f) ∧ Binds K fd ps [] ∧ Nst K f T
theorem DfN.ok {P : Program} {w : World} {K : PySem.W.Frag} {mg : Str → Option Value} {x : Str} {st : Stmt} {N ps : List Str} {k : Nat} {sp : Sp} {T : Addr} (D : DfN K mg x st ps T) (S : FnScope N ps (defScope st)) (len : ∀ vs H Q E, sp vs H Q E → vs.length = ps.length)
    (hbody : ∀ (base : Heap) (f cc : Addr) (A : Around) (outer : List Env) (s : Shared) (H : Hp) (vs : List V) (Q : VK) (E : XK), NestK K cc T → Room k (A.deeper (envOfC x (defScope st) s.heap.objs.size f (.ref cc))) → sp vs H Q E →
      ∃ t, PSs (cxOf CX0 P w K mg base N x (defScope st) f (.ref cc) A outer s H E).nox (defBody st) t ∧ t { nx := fun _ H' => Q .non H', rt := Q } (start N vs) H) : Cal P w K mg CX0 x (k + 1) ps sp := by
  obtain ⟨f, fd, F, m, b, n⟩ := D
  refine ⟨f, fd, fun base => ?_, m, F.kp, b⟩
  obtain ⟨oc, od, kV, doc, pm, an, cdv, ct, osl, rfl, lk, hcd⟩ := F.ex
  obtain ⟨oc', od', fd', osl', cc, lk', hc, nk⟩ := n
  rw [lk] at lk'
  cases lk'
  have hc : cdv = .ref cc := hc
  subst hc
  exact fn_of lk hcd S len fun A outer s H vs Q E hr hsp =>
    let ⟨t, h, q⟩ := hbody base f cc A outer s H vs Q E nk hr hsp
    ⟨t, h.nox, q⟩
theorem dfn_of {K : PySem.W.Frag} {mg : Str → Option Value} {h : Heap} {x : Str} {st : Stmt} {ps : List Str} {c T : Addr} (D : Df K mg x st ps) (X : K.In h) (G : h.Ns mainGlobals mg) (ht : PySem.W.tabIn K x = some (c, T)) (hd : PySem.W.codeHdIn K c T = true) : DfN K mg x st ps T := by
  obtain ⟨f, fd, F, m, b⟩ := D
  obtain ⟨oc, od, kV, doc, pm, an, cdv, ct, osl, rfl, lk, hcd⟩ := id F.ex
  exact ⟨f, _, F, m, b, oc, od, _, osl, c, lk, PySem.W.law_code X G ht m (X _ _ lk) rfl, hd⟩
end L3
end
section
namespace L3
open PySem PySem.Spec PyProof.Rows L2 KM
noncomputable def defPos (s : Stmt) : Pos := match s with
  | .FunctionDef _ _ _ _ _ _ _ _ _ p => p
  | _ => ⟨0, 0, 0, 0⟩
noncomputable def cloChk (ps cs : List Str) (names : List (Str × NameKind)) : Bool :=
  names.all (fun y => y.2 != .cell && (y.2 != .free || cs.contains y.1)) && ps.all (fun x => names.lookup x == some .local) && cs.all (fun x => names.lookup x == some .free) && decide (ps ++ cs).Nodup
theorem cloScope_of {ps cs : List Str} {scope : Scope} (h1 : scope.kind = .function) (h2 : scope.isCoroutine = false) (h3 : scope.isGenerator = false) (h : cloChk ps cs scope.names = true) : CloScope ps cs scope := by
  unfold cloChk at h
  simp only [Bool.and_eq_true, List.all_eq_true, decide_eq_true_eq] at h
  obtain ⟨⟨⟨a, b⟩, c⟩, d⟩ := h
  refine ⟨h1, h2, h3, fun y hy => ?_, fun x hx => ?_, d, fun x hx => ?_, fun x e => ?_⟩
  · simpa using (a y hy).1
  · simpa using b x hx
  · simpa using c x hx
  · have := (a _ (PySem.mem_of_lookup e)).2
    simpa using this
theorem look_inj {cl : List (Str × Addr)} (nd : (cl.map (·.2)).Nodup) : ∀ x y a, cl.lookup x = some a → cl.lookup y = some a → x = y := fun x y a h1 h2 => by
  have m1 := PySem.mem_of_lookup h1
  have m2 := PySem.mem_of_lookup h2
  obtain ⟨i, hi, e1⟩ := List.mem_iff_getElem.mp m1
  obtain ⟨j, hj, e2⟩ := List.mem_iff_getElem.mp m2
  have : i = j := (List.getElem_inj (i := i) (j := j) (h₀ := by simpa using hi) (h₁ := by simpa using hj) nd).mp (by rw [List.getElem_map, List.getElem_map, e1, e2])
  subst this
  rw [e1] at e2
  exact (Prod.mk.inj e2).1
theorem clo_at {X : Cx} {σ : L2.St} {b' : Heap} {f c : Addr} {name qual : Str} {params : Arguments} {body : List Stmt} {scope : Scope} {cl : List (Str × Addr)} {doc pm ct : Value} {cs : List Str} {ws : List V}
    (B : BaseUp (pnCx X f (cloObj name qual params body scope cl doc pm c ct)) σ b') (hcs : cl.map (·.1) = cs) (hnd : (cl.map (·.2)).Nodup) (hl : ws.length = cs.length)
    (hcell : ∀ (i : Nat) (x : Str), cs[i]? = some x → ∃ (j : Nat) (v : V), ws[i]? = some v ∧ X.N[j]? = some x ∧ σ[j]? = some (some v) ∧ X.env.kindOf x = some .cell ∧ X.fn x = true ∧ cl.lookup x = X.env.cells.lookup x) : CloAt b' f c name qual params body scope cs ws cl doc pm ct := by
  refine ⟨B.pin (f, cloObj name qual params body scope cl doc pm c ct) List.mem_cons_self, look_inj hnd, fun x a e => ?_, fun i x e => ?_, hl⟩
  · rw [← hcs]
    exact List.mem_map.mpr ⟨_, PySem.mem_of_lookup e, rfl⟩
  · obtain ⟨j, v, e1, e2, e3, e4, e5, e6⟩ := hcell i x e
    obtain ⟨a, u, r1, r2, r3⟩ := B.cell j x v e2 e3 e4 e5
    exact ⟨v, a, u, e1, by rw [e6]; exact r1, r2, r3⟩
theorem clo_cal {P : Program} {w : World} {K : PySem.W.Frag} {mg : Str → Option Value} {base : Heap} {k : Nat} {ps cs : List Str} {name qual : Str} {params : Arguments} {body : List Stmt} {scope : Scope} {f c : Addr} {cl : List (Str × Addr)} {doc pm ct : Value} {ws : List V} {sp : Sp}
    (S : CloScope ps cs scope) (C : CloAt base f c name qual params body scope cs ws cl doc pm ct) (hb : ∀ us : List Value, us.length = ps.length → bindArgs (PySem.W.fnX name qual params body scope cl .none .none doc pm none (.ref c) ct) ⟨us, []⟩ = pure (ps.zip us))
    (hsp : ∀ vs H Q, sp vs H Q E0 → vs.length = ps.length ∧ H c = some (CodeIs qual))
    (hbody : ∀ (base' : Heap) (A : Around) (outer : List Env) (s : Shared) (H : Hp) (vs : List V) (Q : VK), Room k (A.deeper (cloEnv qual scope s.heap.objs.size f c cl)) → sp vs H Q E0 →
      ∃ t, PSs (cxClo CX0 P w K mg base' (ps ++ cs) qual scope f c cl A outer s H E0) body t ∧ t { nx := fun _ H' => Q .non H', rt := Q } (vs.map some ++ ws.map some) H) : CloCal P w K mg base (k + 1) f sp := by
  refine ⟨⟨_, _, _, _, C.fo⟩, fun base' up A outer s H us vs Q hr e0 r h => ?_⟩
  obtain ⟨hl, hc⟩ := hsp vs H Q h
  exact clo_run S e0 hr (C.keeps up) hc hl r (.of_eq (hb us (by rw [← r.length]; exact hl))) fun hr' => hbody base' A outer s H vs Q hr' h
end L3
end
section
namespace L3
open PySem PySem.Spec PyProof.Rows L2 KM
noncomputable def tCallU (base : Heap) (sp : Heap → Sp) (E : XK) (t : TA) : TE := fun σ H Q => t σ H fun vs H1 => ∀ b', (∀ b o, base.get? b = some o → b'.get? b = some o) → sp b' vs H1 Q E
theorem pe_fnU {X : Cx} {base : Heap} {CX : CXT} {x : Str} {k : Nat} {ps : List Str} {sp : Heap → Sp} {E : XK} {e : Expr} {es : List Expr} {t : TA} {p pos : Pos} (F : CalB X.prog X.w X.K X.mg CX x k ps sp) (hr : Room k X.A) (hg : Gl X x) (hx : Passes CX X E)
    (ha : PA X (e :: es) t) (hdb : (x == ("__debug__" : Str)) = false := by decide) (he : starEach (e :: es) X.env = (false, eval e X.env) :: starEach es X.env := by rfl) (hpl : (backTo pos (starEach es X.env)).any (·.1) = false := by rfl) (hc : X.calm = true := by rfl) (hbs : X.base = base := by rfl) :
    PE X (.Call (.Name x p) (e :: es) [] pos) (tCallU base sp E t) := by
  subst hbs
  obtain ⟨f, fd, F, m, kp, b⟩ := F
  intro pins s σ H Q I h
  refine wpAny_Call_Name_kw (ld_glob I hg m ?_ hdb)
  refine PySem.W.callWith_K (h₀ := X.base) I.ok.mod.kin kp (thn (ha pos pins s σ H _ I h) fun us s1 ⟨vs, H1, I1, r, q⟩ => ⟨I1.kIn, ?_⟩) he hpl
  have q := q _ (baseUp I1).old
  have hl : us.length = ps.length := by rw [← r.length]; exact (F (hidX s1.heap H1 (frs X.stack))).len _ _ _ _ q
  have bt := b s1 us I1.kIn (by rw [List.append_nil]; exact hl)
  rw [List.append_nil] at bt
  refine wpAny_call (codeAny_mono ((F _).run X.A X.stack s1 H1 ⟨us, []⟩ us vs Q E hr (env1 I1 hc) bt r q) fun r' s' hq => ?_)
  cases r' with
  | error e => exact hx pins σ H1 s1 e s' I1 hq
  | ok fl =>
    cases fl with
    | ret u => exact I1.after hq
    | next => exact False.elim hq
    | brk => exact False.elim hq
    | cont => exact False.elim hq
end L3
namespace L3
open PySem PySem.Spec PyProof.Rows L2 KM
end L3
namespace L3
open PySem PySem.Spec PyProof.Rows L2 KM
end L3
end
section
set_option maxHeartbeats 1000000
namespace K40
open PySem L2 L3 KM PyProof.Rows
seal L2.PE L2.PS L2.PSs L2.PT L2.PW L2.PA L2.PG L2.PGs L2.PI L2.PC L2.PO L2.PPs L2.PK L3.PIf L3.PH L3.PB
variable {P : Program} {w : World} {K : PySem.W.Frag} {mg : Str → Option Value} {base : Heap} {t : Adr}
noncomputable def spChange (g : Int → Int → D) (Pre : Hp → Prop) : Sp := fun vs H Q _ => ∃ n b : Int, vs = [.int n, .int b] ∧ 0 ≤ n ∧ 0 ≤ b ∧ Pre H ∧ ∀ (v : V) (H' : Hp), Same H H' → Rep H' (g n b) v → Q v H'
structure Chg (P : Program) (w : World) (K : PySem.W.Frag) (mg : Str → Option Value) (base : Heap) (kc : Nat) (f : Addr) (g : Int → Int → D) (Pre : Hp → Prop) : Prop where
  cal : CloCal P w K mg base kc f (spChange g Pre)
  st : ∀ H H', Pre H → Same H H' → Pre H'
noncomputable def bdI (x : Str) (i : Nat) : Int := if decide (V.int i = overV x) = true then 1 else 0
theorem bdI_nn (x : Str) (i : Nat) : 0 ≤ bdI x i := by unfold bdI; split <;> decide
theorem bind_bd (x : Str) (i : Nat) : bindV x i = .int (bdI x i) := by unfold bindV bdI; split <;> rfl
noncomputable def wfD (g : Int → Int → D) : Nat → Int → D → D
  | n + 1, b, .tup (.str x :: ps) => if x = "var" then (match ps with
      | [.int i] => if b ≤ i then g (i - b) b else .tup (.str x :: ps)
      | _ => .tup (.str x :: ps)) else rebuiltD x ps ((List.range (kidsD x ps).length).map fun i => wfD g n (b + bdI x i) (((kidsD x ps)[i]?).getD .non))
  | _, _, d => d
noncomputable def spWf (P : Program) (w : World) (K : PySem.W.Frag) (mg : Str → Option Value) (kc n : Nat) (base : Heap) : Sp := fun vs H Q _ => ∃ (d : D) (v : V) (b : Int) (f : Addr) (g : Int → Int → D) (Pre : Hp → Prop), vs = [v, .int b, .ref f] ∧ Rep H d v ∧ Wf d ∧ depth d < n ∧ 0 ≤ b ∧ Pre H ∧ Chg P w K mg base kc f g Pre ∧
  ∀ (u : V) (H' : Hp), Same H H' → Rep H' (wfD g n b d) u → Q u H'
theorem sc_with_free : FnScope ["thing", "binders", "change", "kids"] ["thing", "binders", "change"] (defScope s_with_free) := ⟨rfl, rfl, rfl, by decide +kernel, rfl, by decide +kernel, by decide +kernel⟩
theorem st_with_free {kc n : Nat} (D : Df K mg "with_free" s_with_free ["thing", "binders", "change"]) (M : Mg mg t) (F_kids_of : Cal P w K mg CX0 "kids_of" (1) ["thing"] spKids) (F_binds_of : Cal P w K mg CX0 "binds_of" (1) ["thing"] spBinds) (F_rebuilt : Cal P w K mg CX0 "rebuilt" (1) ["thing", "kids"] spRebuilt) (F_with_free : CalB P w K mg CX0 "with_free" (n + kc + 3) ["thing", "binders", "change"] (spWf P w K mg kc n)) : CalB P w K mg CX0 "with_free" (n + kc + 4) ["thing", "binders", "change"] (spWf P w K mg kc (n + 1)) := by
  refine D.okB sc_with_free (fun base vs H Q E h => ?_) (fun base f cdv A outer s H vs Q E hr h => ?_)
  · obtain ⟨d, v, b, fc, g, Pre, rfl, _⟩ := h
    rfl
  obtain ⟨d, v, b, fc, g, Pre, rfl, r, wfd, hd, hb, hp, C, q⟩ := h
  have hC := C.cal
  obtain ⟨x, ps, k, rfl, wf, hps⟩ := wf_ps wfd
  have hk4 := kids4 wf
  obtain ⟨a, us0, rfl, ha, v0, us0, rfl, ⟨rfl, hx⟩, rp⟩ := id r
  have ea : atI (V.str x :: us0) 0 = some (.str x) := atI_nat (j := 0) rfl
  refine ⟨_, (pss_cons (ps_if (pt_cmpR op_eq (pe_ix ix_tup (pv 0) pe_int (fun _ _ => rfl)) pe_str (nomark _)) (pss_one (ps_ret (pe_ifExp (pt_cmpR op_ge (pe_ix ix_tup (pv 0) pe_int (fun _ _ => rfl)) (pv 1) (nomark _)) (pe_callv (i := 2) hC (hr.mono (by omega)) rfl (by first | exact Or.inl rfl | exact Or.inr (Or.inl rfl) | exact Or.inr (Or.inr rfl)) (pa_cons (pe_op op_sub (pe_ix ix_tup (pv 0) pe_int (fun _ _ => rfl)) (pv 1)) (pa_cons (pv 1) pa_nil))) (pv 0)))) pss_nil)
      (pss_cons (ps_setC (ix := 3) (N' := ["kid", "bound", "change", "binders"]) (own := 2) (fr := [2, 1]) sc_with_free.nd rfl rfl rfl (blk_of (N := ["thing", "binders", "change", "kids"]) (sc := defScope s_with_free) rfl rfl rfl (by decide +kernel)) (pi_zipL rfl M.n_zip (pa_cons (pe_fn F_kids_of (hr.mono (by omega)) rfl pass0 (pa_cons (pv 0) pa_nil)) (pa_cons (pe_fn F_binds_of (hr.mono (by omega)) rfl pass0 (pa_cons (pv 0) pa_nil)) pa_nil))) (own_pair (n := 2) (by decide) (by decide)) (fun _ _ _ => (pg_tup (n := 2) rfl (pgs_cons (pg_name (i := 0) (show List.Nodup (["kid", "bound", "change", "binders"] : List Str) by decide +kernel) rfl (Or.inl rfl)) (pgs_cons (pg_name (i := 1) (show List.Nodup (["kid", "bound", "change", "binders"] : List Str) by decide +kernel) rfl (Or.inl rfl)) pgs_nil)))) (fun _ _ _ => pif_nil) (fun _ _ _ => (pe_fnU (base := base) F_with_free (hr.mono (by omega)) rfl pass0 (pa_cons (pv 0) (pa_cons (pe_op op_add (pv 3) (pv 1)) (pa_cons (pv 2) pa_nil))))))
      (pss_one (ps_ret (pe_fn F_rebuilt (hr.mono (by omega)) rfl pass0 (pa_cons (pv 0) (pa_cons (pv 3) pa_nil))))))), ?_⟩
  try dsimp only [cxK, cxK2]
  refine let3 ?_
  intro _ _ _
  refine ⟨_, rfl, a, _, _, _, rfl, rfl, SqT.of ha, ea, rfl, _, rfl, ?_⟩
  refine ite2 (fun c => ?_) (fun c => ?_)
  · have c : V.str x = V.str "var" := of_decide_eq_true c
    cases c
    obtain ⟨sh, e1, _, e3, _, e5, _⟩ := wf_shape wf
    rw [shape_var] at e1
    cases e1
    rw [len_n] at e3 e5
    obtain ⟨p0, rfl⟩ : ∃ p0, ps = [p0] := by
      cases ps with
      | nil => simp at e5
      | cons p0 rest => cases rest with
        | nil => exact ⟨p0, rfl⟩
        | cons _ _ => simp at e5
    rw [wfL_cons, Bool.and_eq_true] at e3
    have hn : numD p0 = true := by simpa [dueB] using e3.1
    obtain ⟨i, rfl⟩ : ∃ i, p0 = .int i := by cases p0 <;> first | exact ⟨_, rfl⟩ | simp [numD] at hn
    obtain ⟨u1, us1, rfl, r1, _⟩ := rp
    cases (show u1 = V.int i from r1)
    have h0 : 0 ≤ i := by simpa [numD] using hn
    have e : wfD g (n + 1) b (.tup [.str "var", .int i]) = if b ≤ i then g (i - b) b else .tup [.str "var", .int i] := by rw [wfD, if_pos rfl]
    rw [e] at q
    refine ⟨_, rfl, a, _, _, .int i, rfl, rfl, SqT.of ha, atI_nat (j := 1) rfl, _, rfl, _, _, rfl, rfl, _, rfl, ?_⟩
    refine ite2 (fun c => ?_) (fun c => ?_)
    · have c : b ≤ i := of_decide_eq_true c
      rw [if_pos c] at q
      exact ⟨rfl, _, rfl, a, _, _, .int i, rfl, rfl, SqT.of ha, atI_nat (j := 1) rfl, _, rfl, _, _, rfl, rfl, _, rfl, i - b, b, rfl, by omega, hb, hp, q⟩
    · have c : ¬ b ≤ i := of_decide_eq_false (Bool.eq_false_iff.mpr c)
      rw [if_neg c] at q
      exact ⟨_, rfl, q _ H (Same.refl H) r⟩
  have hv : x ≠ "var" := fun z => c (by rw [z]; exact decide_eq_true rfl)
  have e : wfD g (n + 1) b (.tup (.str x :: ps)) = rebuiltD x ps ((List.range (kidsD x ps).length).map fun i => wfD g n (b + bdI x i) (((kidsD x ps)[i]?).getD .non)) := by
    conv => lhs; unfold wfD
    exact if_neg hv
  rw [e] at q
  refine ⟨_, rfl, x, ps, _, rfl, r, hps, fun p1 us H1 _ s1 h1 r1 => ⟨_, rfl, x, ps, _, k, rfl, r.mono s1, wf, fun p2 H2 s2 h2 => ⟨p1, p2, us, _, rfl, SqL.of (s2 _ _ h1), SqL.of h2, fun p3 hp3 => ?_⟩⟩⟩
  have l1 := r1.length
  have s12 := s1.trans s2
  have h1' := s2 _ _ h1
  refine comp_reps (kidsD x ps).length (fun i => wfD g n (b + bdI x i) (((kidsD x ps)[i]?).getD .non)) hp3 (Nat.le_trans hk4 (by decide)) (fun i H3 hi s3 => ?_) fun acc H3 s3 h3 r3 => ⟨⟨us, _, SqL.of (s3 _ _ h1'), SqL.of (s3 _ _ h2), by omega⟩, ?_⟩
  · obtain ⟨di, hdi⟩ : ∃ di, (kidsD x ps)[i]? = some di := ⟨_, List.getElem?_eq_getElem hi⟩
    obtain ⟨ui, hui, rui⟩ := r1.get hdi
    have hbi : (bindsV x (kidsD x ps).length)[i]? = some (.int (bdI x i)) := by
      unfold bindsV
      rw [List.getElem?_map, List.getElem?_range hi]
      show some (bindV x i) = _
      rw [bind_bd]
    refine ⟨⟨us, _, ui, _, SqL.of (s3 _ _ h1'), SqL.of (s3 _ _ h2), hui, hbi⟩, ?_⟩
    rintro y H4 ⟨p, x', y', rfl, hpn, rfl, hy⟩ R hR
    obtain ⟨y1, y2⟩ := hy us _ (SqL.of (s3 _ _ h1')) (SqL.of (s3 _ _ h2))
    rw [hui] at y1
    rw [hbi] at y2
    cases y1
    cases y2
    have s4 := same_new hpn (.tup [ui, .int (bdI x i)])
    obtain ⟨w1, w2⟩ := wf_kid wf hdi
    rw [hdi] at hR
    have sa := s12.trans (s3.trans s4)
    refine ⟨p, _, rfl, SqT.of upd_same, rfl, _, _, rfl, _, _, rfl, rfl, ?_⟩
    exact ⟨_, rfl, _, rfl, _, rfl, _, _, rfl, rfl, _, rfl, fun b' up => ⟨di, ui, b + bdI x i, fc, g, Pre, rfl, rui.mono (s2.trans (s3.trans s4)), w1, by omega, by have := bdI_nn x i; omega, C.st _ _ hp sa, ⟨hC.up up, C.st⟩, fun u H5 s5 r5 => hR u H5 (s4.trans s5) r5⟩⟩
  · refine ⟨_, rfl, _, rfl, x, ps, _, _, p3, acc, rfl, r.mono (s12.trans s3), h3, r3, by rw [List.length_map, List.length_range]; omega, fun u H4 s4 r4 => q u H4 (s12.trans (s3.trans s4)) r4⟩
theorem c_with_free {kc : Nat} (D : Df K mg "with_free" s_with_free ["thing", "binders", "change"]) (M : Mg mg t) (F_kids_of : Cal P w K mg CX0 "kids_of" (1) ["thing"] spKids) (F_binds_of : Cal P w K mg CX0 "binds_of" (1) ["thing"] spBinds) (F_rebuilt : Cal P w K mg CX0 "rebuilt" (1) ["thing", "kids"] spRebuilt) : ∀ n : Nat, CalB P w K mg CX0 "with_free" (n + kc + 3) ["thing", "binders", "change"] (spWf P w K mg kc n)
  | 0 => CalB.never D fun base vs H Q E ⟨d, v, b, f, g, Pre, _, _, _, h, _⟩ => absurd h (Nat.not_lt_zero _)
  | n + 1 => by
    have := st_with_free (kc := kc) D M F_kids_of F_binds_of F_rebuilt (c_with_free D M F_kids_of F_binds_of F_rebuilt n)
    rwa [show n + 1 + kc + 3 = n + kc + 4 by omega]
end K40
end
section
set_option maxHeartbeats 1000000
namespace K40
open PySem L2 L3 KM PyProof.Rows
seal L2.PE L2.PS L2.PSs L2.PT L2.PW L2.PA L2.PG L2.PGs L2.PI L2.PC L2.PO L2.PPs L2.PK L3.PIf L3.PH L3.PB
variable {P : Program} {w : World} {K : PySem.W.Frag} {mg : Str → Option Value} {base : Heap} {t : Adr}
noncomputable abbrev s_raised_change : Stmt := (defBody s_raised).getD 0 (.Pass ⟨0, 0, 0, 0⟩)
theorem sc_raised_change : CloScope ["number", "binders"] ["low", "by"] (defScope s_raised_change) := cloScope_of rfl rfl rfl (by decide +kernel)
noncomputable def chgD (by_ low : Int) (n b : Int) : D := .tup [.str "var", .int (n + b + (if low ≤ n then by_ else 0))]
noncomputable def tabQ : Str := "raised.<locals>.change"
noncomputable def tabP : Pos := defPos s_raised_change
noncomputable def spRaised (T : Addr) (n : Nat) : Sp := fun vs H Q _ => ∃ (d : D) (v : V) (by_ low : Int), vs = [v, .int by_, .int low] ∧ Rep H d v ∧ Wf d ∧ depth d < n ∧ TabOk H T tabQ tabP ∧ ∀ (u : V) (H' : Hp), Same H H' → Rep H' (wfD (chgD by_ low) n 0 d) u → Q u H'
theorem sc_raised : FnScope ["thing", "by", "low", "change"] ["thing", "by", "low"] (defScope s_raised) := ⟨rfl, rfl, rfl, by decide +kernel, rfl, by decide +kernel, by decide +kernel⟩
theorem c_raised {n : Nat} {T : Addr} (D : DfN K mg "raised" s_raised ["thing", "by", "low"] T) (M : Mg mg t) (F_with_free : CalB P w K mg CX0 "with_free" (n + 1 + 3) ["thing", "binders", "change"] (spWf P w K mg 1 n)) : Cal P w K mg CX0 "raised" (n + 5) ["thing", "by", "low"] (spRaised T n) := by
  refine D.ok sc_raised (fun vs H Q E h => ?_) (fun base f cc A outer s H vs Q E nk hr h => ?_)
  · obtain ⟨d, v, by_, low, rfl, _⟩ := h
    rfl
  obtain ⟨d, v, by_, low, rfl, r, wfd, hd, hT, q⟩ := h
  refine ⟨_, (pss_def (i := 3) (qual := tabQ) nk rfl sc_raised.nd rfl rfl rfl rfl (fun fc c doc pm ct => (pss_one (ps_ret (pe_fnB F_with_free (hr.mono (by omega)) rfl pass0 (pa_cons (pv 0) (pa_cons pe_int (pa_cons (pv 3) pa_nil)))))))), ?_⟩
  try dsimp only [cxK, cxK2]
  refine ⟨hT, fun fc c doc pm ct H1 s1 hc => ?_⟩
  refine ⟨v, rfl, _, rfl, fun b' B => ?_⟩
  refine ⟨d, v, 0, fc, chgD by_ low, fun H' => H' c = some (CodeIs tabQ), rfl, r.mono s1, wfd, hd, Int.le_refl 0, hc, ⟨?_, fun H1 H2 h s => s _ _ h⟩, fun u H2 s2 r2 => q u H2 (s1.trans s2) r2⟩
  have C := clo_at (cs := ["low", "by"]) (ws := [.int low, .int by_]) B rfl (by simp) rfl fun i x e => by
    match i, e with
    | 0, e => cases e; exact ⟨2, _, rfl, rfl, rfl, rfl, rfl, rfl⟩
    | 1, e => cases e; exact ⟨1, _, rfl, rfl, rfl, rfl, rfl, rfl⟩
    | i + 2, e => simp at e
  refine clo_cal (k := 0) sc_raised_change C (fun us hl => match us, hl with | [_, _], _ => rfl) (fun vs H Q ⟨n, b, e, _, _, h, _⟩ => ⟨by rw [e]; rfl, h⟩) fun base' A outer s H vs Q hr h => ?_
  obtain ⟨n, b, rfl, h0, hb, _, q⟩ := h
  refine ⟨_, (pss_one (ps_ret (pe_tup (pa_cons pe_str (pa_cons (pe_op op_add (pe_op op_add (pv 0) (pv 1)) (pe_ifExp (pt_cmpR op_ge (pv 0) (pv 2) (nomark _)) (pv 3) pe_int)) pa_nil))))), ?_⟩
  refine ⟨_, rfl, _, rfl, _, _, rfl, rfl, _, rfl, _, rfl, _, _, rfl, rfl, _, rfl, ?_⟩
  have fin : ∀ z : Int, z = (if low ≤ n then by_ else 0) → ∀ p, H p = none → Q (.ref p) (upd H p (.tup [.str "var", .int (n + b + z)])) := fun z hz p hp => by
    refine q _ _ (same_new hp _) ?_
    rw [hz]
    exact rep_new hp (rs rw_ (rs ri r0))
  refine ite2 (fun c => ?_) (fun c => ?_)
  · have c : low ≤ n := of_decide_eq_true c
    exact ⟨_, rfl, _, _, rfl, rfl, (by show 2 ≤ sizeLine; decide), fin by_ (by rw [if_pos c])⟩
  · have c : ¬ low ≤ n := of_decide_eq_false (Bool.eq_false_iff.mpr c)
    exact ⟨_, _, rfl, rfl, (by show 2 ≤ sizeLine; decide), fin 0 (by rw [if_neg c])⟩
theorem kids_map {x : Str} {ps : List D} {k : Bool} (wf : wfG isStrD k (.tup (.str x :: ps)) = true) (f : Nat → D) (hk : ∀ (i : Nat) (p : D) (c : Nat), (kidsD x ps)[i]? = some p → dueB isStrD c p = true → (c = 107 ∨ c = 116) → dueB isStrD c (f i) = true) :
    wfG isStrD k (rebuiltD x ps ((List.range (kidsD x ps).length).map f)) = true := by
  unfold rebuiltD
  by_cases hq : (List.range (kidsD x ps).length).map f = []
  · rw [if_pos hq]; exact wf
  rw [if_neg hq]
  obtain ⟨sh, h1, h2, h3, h4, h5, h6, h7, _⟩ := wf_shape wf
  have nl : leafW x = false := by
    cases e : leafW x with
    | false => rfl
    | true => exact absurd (by unfold kidsD; rw [if_pos e]; rfl) hq
  have ek : kidsD x ps = ps := by unfold kidsD; rw [nl]; rfl
  refine wfG_mk h1 h2 ?_
  rw [ek] at hk ⊢
  have key : ∀ (cs : List Nat) (qs : List D) (j : Nat), wfL isStrD cs qs = true → (∀ c ∈ cs, c = 107 ∨ c = 116) → (∀ (i : Nat) (p : D) (c : Nat), qs[i]? = some p → dueB isStrD c p = true → (c = 107 ∨ c = 116) → dueB isStrD c (f (j + i)) = true) → wfL isStrD cs ((List.range' j qs.length).map f) = true := fun cs => by
    induction cs with
    | nil =>
      intro qs j h _ _
      cases qs with
      | nil => exact h
      | cons _ _ => simp [wfL] at h
    | cons c cs ih =>
      intro qs j h hc hf
      cases qs with
      | nil => simp [wfL] at h
      | cons q qs =>
        rw [wfL_cons, Bool.and_eq_true] at h
        rw [List.length_cons, List.range'_succ, List.map_cons, wfL_cons, Bool.and_eq_true]
        refine ⟨by have := hf 0 q c rfl h.1 (hc c List.mem_cons_self); rwa [Nat.add_zero] at this, ih qs (j + 1) h.2 (fun c h => hc c (List.mem_cons_of_mem _ h)) fun i p c' e1 e2 e3 => ?_⟩
        have := hf (i + 1) p c' (by simpa using e1) e2 e3
        rwa [show j + 1 + i = j + (i + 1) by omega]
  have := key sh.cps.toList ps 0 h3 (fun c hc => h7 nl c hc) fun i p c e1 e2 e3 => by rw [Nat.zero_add]; exact hk i p c e1 e2 e3
  rwa [← List.range_eq_range'] at this
theorem reb_size {x : Str} {ps : List D} {k : Bool} (wf : wfG isStrD k (.tup (.str x :: ps)) = true) (f : Nat → D) (hk : ∀ (i : Nat) (p : D), (kidsD x ps)[i]? = some p → knots (f i) = knots p ∧ depth (f i) = depth p) :
    knots (rebuiltD x ps ((List.range (kidsD x ps).length).map f)) = knots (.tup (.str x :: ps)) ∧ depth (rebuiltD x ps ((List.range (kidsD x ps).length).map f)) = depth (.tup (.str x :: ps)) := by
  unfold rebuiltD
  by_cases hq : (List.range (kidsD x ps).length).map f = []
  · rw [if_pos hq]; exact ⟨rfl, rfl⟩
  rw [if_neg hq]
  have nl : leafW x = false := by
    cases e : leafW x with
    | false => rfl
    | true => exact absurd (by unfold kidsD; rw [if_pos e]; rfl) hq
  have ek : kidsD x ps = ps := by unfold kidsD; rw [nl]; rfl
  rw [ek] at hk ⊢
  have key : ∀ (qs : List D) (j : Nat), (∀ (i : Nat) (p : D), qs[i]? = some p → knots (f (j + i)) = knots p ∧ depth (f (j + i)) = depth p) → knotsL ((List.range' j qs.length).map f) = knotsL qs ∧ depthL ((List.range' j qs.length).map f) = depthL qs := fun qs => by
    induction qs with
    | nil => intro _ _; exact ⟨rfl, rfl⟩
    | cons q qs ih =>
      intro j h
      obtain ⟨a1, a2⟩ := ih (j + 1) fun i p e => by have := h (i + 1) p (by simpa using e); rwa [show j + 1 + i = j + (i + 1) by omega]
      obtain ⟨b1, b2⟩ := h 0 q rfl
      rw [Nat.add_zero] at b1 b2
      rw [List.length_cons, List.range'_succ, List.map_cons, knotsL, depthL, knotsL, depthL, a1, a2, b1, b2]
      exact ⟨rfl, rfl⟩
  have := key ps 0 fun i p e => by rw [Nat.zero_add]; exact hk i p e
  rw [← List.range_eq_range'] at this
  simp only [knots, knotsL, depth, depthL]
  rw [this.1, this.2]
  exact ⟨rfl, rfl⟩
theorem wf_varD {k : Bool} {ps : List D} (wf : wfG isStrD k (.tup (.str "var" :: ps)) = true) : ∃ i : Int, ps = [.int i] ∧ 0 ≤ i ∧ k = false := by
  obtain ⟨sh, e1, e2, e3, _, e5, _⟩ := wf_shape wf
  rw [shape_var] at e1
  cases e1
  rw [len_n] at e3 e5
  obtain ⟨p0, rfl⟩ : ∃ p0, ps = [p0] := by
    cases ps with
    | nil => simp at e5
    | cons p0 rest => cases rest with
      | nil => exact ⟨p0, rfl⟩
      | cons _ _ => simp at e5
  rw [wfL_cons, Bool.and_eq_true] at e3
  have hn : numD p0 = true := by simpa [dueB] using e3.1
  obtain ⟨i, rfl⟩ : ∃ i, p0 = .int i := by cases p0 <;> first | exact ⟨_, rfl⟩ | simp [numD] at hn
  exact ⟨i, rfl, by simpa [numD] using hn, by rw [← e2]; exact kind_var⟩
theorem wf_varA {z : Int} (h : 0 ≤ z) : wfG isStrD false (.tup [.str "var", .int z]) = true := by
  refine wfG_mk shape_var kind_var ?_
  rw [len_n, wfL_cons]
  simp [dueB, numD, h, wfL]
theorem due_wf {c : Nat} {p : D} (h : dueB isStrD c p = true) (hc : c = 107 ∨ c = 116) : ∃ k, wfG isStrD k p = true ∧ ∀ q, wfG isStrD k q = true → dueB isStrD c q = true := by
  rcases hc with rfl | rfl
  · exact ⟨true, h, fun q hq => hq⟩
  · exact ⟨false, h, fun q hq => hq⟩
theorem wfD_keeps {by_ low : Int} (hby : 0 ≤ by_) : ∀ (n : Nat) (b : Int) (d : D) (k : Bool), 0 ≤ b → depth d < n → wfG isStrD k d = true → wfG isStrD k (wfD (chgD by_ low) n b d) = true ∧ knots (wfD (chgD by_ low) n b d) = knots d ∧ depth (wfD (chgD by_ low) n b d) = depth d
  | 0, _, _, _, _, h, _ => absurd h (Nat.not_lt_zero _)
  | n + 1, b, d, k, hb, hd, wf => by
    obtain ⟨x, ps, rfl⟩ := wf_form wf
    by_cases hv : x = "var"
    · subst hv
      obtain ⟨i, rfl, hi, rfl⟩ := wf_varD wf
      have e : wfD (chgD by_ low) (n + 1) b (.tup [.str "var", .int i]) = if b ≤ i then chgD by_ low (i - b) b else .tup [.str "var", .int i] := by rw [wfD, if_pos rfl]
      rw [e]
      split
      · unfold chgD
        refine ⟨wf_varA ?_, by simp [knots, knotsL], by simp [depth, depthL]⟩
        split <;> omega
      · exact ⟨wf, rfl, rfl⟩
    · have e : wfD (chgD by_ low) (n + 1) b (.tup (.str x :: ps)) = rebuiltD x ps ((List.range (kidsD x ps).length).map fun i => wfD (chgD by_ low) n (b + bdI x i) (((kidsD x ps)[i]?).getD .non)) := by
        conv => lhs; unfold wfD
        exact if_neg hv
      rw [e]
      refine ⟨kids_map wf _ fun i p c e1 e2 e3 => ?_, reb_size wf _ fun i p e1 => ?_⟩
      · obtain ⟨w1, w2⟩ := wf_kid wf e1
        obtain ⟨k', h1, h2⟩ := due_wf e2 e3
        rw [e1]
        exact h2 _ (wfD_keeps hby n (b + bdI x i) p k' (by have := bdI_nn x i; omega) (by omega) h1).1
      · obtain ⟨⟨k', w1⟩, w2⟩ := wf_kid wf e1
        rw [e1]
        exact (wfD_keeps hby n (b + bdI x i) p k' (by have := bdI_nn x i; omega) (by omega) w1).2
end K40
end
section
set_option maxHeartbeats 2000000
namespace K40
open PySem L2 L3 KM PyProof.Rows
seal L2.PE L2.PS L2.PSs L2.PT L2.PW L2.PA L2.PG L2.PGs L2.PI L2.PC L2.PO L2.PPs L2.PK L3.PIf
variable {P : Program} {w : World} {K : PySem.W.Frag} {mg : Str → Option Value} {base : Heap} {t : Adr}
noncomputable def isNumD (d : D) : Bool := isIntD d && !isBlD d
noncomputable def spNumber : Sp := fun vs H Q _ => ∃ d v, vs = [v] ∧ Rep H d v ∧ Q (.bl (isNumD d)) H
theorem sc_is_number : FnScope ["value"] ["value"] (defScope s_is_number) := ⟨rfl, rfl, rfl, by decide +kernel, rfl, by decide +kernel, by decide +kernel⟩
theorem c_is_number (D : Df K mg "is_number" s_is_number ["value"]) (M : Mg mg t) : Cal P w K mg CX0 "is_number" (1) ["value"] spNumber := by
  refine D.ok sc_is_number (fun vs H Q E h => ?_) (fun base f cdv A outer s H vs Q E hr h => ?_)
  · obtain ⟨d, v, rfl, _⟩ := h
    rfl
  obtain ⟨d, v, rfl, r, q⟩ := h
  refine ⟨_, (pss_one (ps_ret (pe_and (pe_callB call_isinst rfl M.n_isinstance bt_isinstance (pa_cons (pv 0) (pa_cons (pe_ty M.n_int bt_int rfl) pa_nil))) (pe_one (pe_not (pe_callB call_isinst rfl M.n_isinstance bt_isinstance (pa_cons (pv 0) (pa_cons (pe_ty M.n_bool bt_bool rfl) pa_nil)))))))), ?_⟩
  try dsimp only [cxK, cxK2]
  refine ⟨_, rfl, _, _, _, _, rfl, r.ty, kit_int _ d, _, rfl, ?_⟩
  refine ite2 (fun c => ?_) (fun c => ?_)
  · refine ⟨_, rfl, _, _, _, _, rfl, r.ty, kit_bl _ d, _, rfl, ?_⟩
    have e : isNumD d = !isBlD d := by unfold isNumD; rw [c]; rfl
    rw [e] at q
    exact q
  · have e : isNumD d = false := by unfold isNumD; rw [Bool.eq_false_iff.mpr c]; rfl
    rw [e] at q
    exact q
noncomputable def one (f : D → Bool) : List D → Bool
  | [p] => f p
  | _ => false
end K40
end
section
namespace L3
open PySem PySem.Spec PyProof.Rows L2
theorem call_isB {X : Cx} {K : PySem.W.Frag} {a C : Addr} {oe : Obj} (hp : X.base.get? a = some oe) (hc : oe.cls = .ref C) (hK : X.K = K := by rfl) : CallR X (.builtin "isinstance") (fun xs H Q => ∃ y c b, xs = [.ref a, y] ∧ ClsK K C ∧ (∀ u, RelV y u → u = c) ∧ PySem.W.kitOne K (.ref C) c = some b ∧ Q (.bl b) H) := by
  subst hK
  intro pins s σ H xs us Q I r h
  obtain ⟨y, c, b, rfl, G, inj, e, q⟩ := h
  obtain ⟨u, v, rfl, ru, rv⟩ := r.two
  cases ru
  obtain rfl := inj v rv
  exact PySem.W.kia_one (kitx_ownexc G) I.kIn ⟨oe, I.bk a oe hp, hc⟩ e (fun z => nomatch z) fun tk => ⟨.bl b, H, I.tok tk, rfl, q⟩
theorem valRefs : ∀ {cs : List Addr} {us : List Value}, Vals (cs.map V.ref) us → us = cs.map Value.ref
  | [], _, .nil => rfl
  | c :: cs, _, .cons r t => by
    cases r
    rw [valRefs t]
    rfl
theorem call_isBT {X : Cx} {K : PySem.W.Frag} {a C : Addr} {oe : Obj} (hp : X.base.get? a = some oe) (hc : oe.cls = .ref C) (hK : X.K = K := by rfl) : CallR X (.builtin "isinstance") (fun xs H Q => ∃ (tp : Addr) (cs : List Addr) (b : Bool), xs = [.ref a, .ref tp] ∧ ClsK K C ∧ H tp = some (.tup (cs.map V.ref)) ∧ PySem.W.kitAny K (.ref C) (cs.map Value.ref) = some b ∧ Q (.bl b) H) := by
  subst hK
  intro pins s σ H xs us Q I r h
  obtain ⟨tp, cs, b, rfl, G, htp, e, q⟩ := h
  obtain ⟨u, v, rfl, ru, rv⟩ := r.two
  cases ru
  cases rv
  obtain ⟨z, its, hv, ⟨oc, od, od2, osl⟩, ho, hcl, n, hd⟩ := I.hok tp _ htp
  have := valRefs hv
  subst this
  cases hcl
  cases hd
  have ht := ho
  exact PySem.W.kia_tup (kitx_ownexc G) I.kIn ⟨oe, I.bk a oe hp, hc⟩ ht e (fun z => nomatch z) fun tk => ⟨.bl b, H, I.tok tk, rfl, q⟩
noncomputable def rInsert0 : V → List V → Hp → VK → Prop := fun x vs H Q => ∃ l xs y, x = .ref l ∧ vs = [.int 0, y] ∧ H l = some (.lst xs) ∧ xs.length < sizeLine ∧ Q .non (upd H l (.lst (y :: xs)))
theorem mt_insert {X : Cx} : MtM X "list.insert" rInsert0 := by
  intro pins s σ H x vs v us Q I rx rv h
  obtain ⟨l, xs, y, rfl, rfl, hH, hz, q⟩ := h
  cases rx
  obtain ⟨u0, u, rfl, r0, ru⟩ := rv.two
  obtain ⟨tk, rfl⟩ := r0
  obtain ⟨z, its, n, r, hl, e⟩ := I.lstM hH
  refine call_meets F.slot_list_insert ⟨_, e, rfl⟩ F.entry_list_insert (F.args_list_insert_3 _ _ _) (AutoSeq1.list_insert_list_int_val_1 l its.toArray n 0 tk u (by decide) (by rw [List.size_toArray]; omega)) ⟨e, ?_⟩
  refine ⟨.non, _, I.lset (its' := u :: its) hH e (by simp) (.cons ru r) ?_, rfl, q⟩
  rw [List.length_cons]
  omega
end L3
end
section
namespace L3
open PySem PySem.Spec PyProof.Rows L2 KM
mutual
noncomputable def pyD : D → PyData
  | .non => .none
  | .bl b => .bool b
  | .int i => .int i
  | .str x => .str x
  | .tup ds => .tuple (pyL ds)
noncomputable def pyL : List D → List PyData
  | [] => []
  | d :: ds => pyD d :: pyL ds
end
mutual
theorem py_depth : ∀ d : D, (pyD d).depth ≤ depth d
  | .non => Nat.zero_le _
  | .bl _ => Nat.zero_le _
  | .int _ => Nat.zero_le _
  | .str _ => Nat.zero_le _
  | .tup ds => by
    show PyData.depthAll (pyL ds) + 1 ≤ 1 + depthL ds
    have := py_depthL ds
    omega
theorem py_depthL : ∀ ds : List D, PyData.depthAll (pyL ds) ≤ depthL ds
  | [] => Nat.zero_le _
  | d :: ds => by
    show max (pyD d).depth (PyData.depthAll (pyL ds)) ≤ max (depth d) (depthL ds)
    have h1 := py_depth d
    have h2 := py_depthL ds
    omega
end
section
variable {X : Cx} {pins : List (Addr × Obj)} {σ : L2.St} {H : Hp} {s : Shared}
mutual
theorem rep_reads (I : Inv X pins σ H s) : ∀ {d : D} {v : V} {u : Value}, Rep H d v → RelV v u → ∃ as, Reads s.heap u (pyD d) as
  | .non, _, u, r, ru => by
    have r : _ = V.non := r
    subst r
    cases (show u = Value.none from ru)
    exact ⟨_, .none⟩
  | .bl b, _, u, r, ru => by
    have r : _ = V.bl b := r
    subst r
    cases (show u = Value.bool b from ru)
    exact ⟨_, .bool b⟩
  | .int i, _, u, r, ru => by
    have r : _ = V.int i := r
    subst r
    obtain ⟨t, rfl⟩ := (show ∃ t, u = Value.int i t from ru)
    exact ⟨_, .int i t⟩
  | .str x, _, u, r, ru => by
    have r : _ = V.str x := r.1
    subst r
    obtain ⟨t, rfl⟩ := (show ∃ t, u = Value.str x t from ru)
    exact ⟨_, .str x t⟩
  | .tup ds, _, u, r, ru => by
    obtain ⟨a, vs, e, ha, rs⟩ := r
    subst e
    cases (show u = Value.ref a from ru)
    obtain ⟨its, rv, ⟨o, ho, hc, n, hd⟩, _⟩ := I.tuple (SqT.of (K := X.K) ha)
    obtain ⟨as, h⟩ := reps_reads I rs rv
    exact ⟨as, .tuple ho hc hd (by simpa using h)⟩
theorem reps_reads (I : Inv X pins σ H s) : ∀ {ds : List D} {vs : List V} {us : List Value}, Reps H ds vs → Vals vs us → ∃ as, ReadsAll s.heap us (pyL ds) as
  | [], _, us, r, rv => by
    have r : _ = [] := r
    subst r
    cases rv
    exact ⟨_, .nil⟩
  | d :: ds, _, us, ⟨v, r, e, q, t⟩, rv => by
    subst e
    cases rv with
    | cons a b =>
      obtain ⟨as, h1⟩ := rep_reads I q a
      obtain ⟨bs, h2⟩ := reps_reads I t b
      exact ⟨_, .cons h1 h2⟩
end
end
mutual
noncomputable def cmpD : D → Bool
  | .non => true
  | .bl _ => false
  | .int _ => true
  | .str x => (PyData.str x).canLay0
  | .tup ds => cmpL ds
noncomputable def cmpL : List D → Bool
  | [] => true
  | d :: ds => cmpD d && cmpL ds
end
mutual
theorem cmp_lay : ∀ d : D, cmpD d = true → (pyD d).canLay0 = true
  | .non, _ => rfl
  | .bl _, h => by cases h
  | .int _, _ => rfl
  | .str x, h => h
  | .tup ds, h => cmp_layL ds h
theorem cmp_layL : ∀ ds : List D, cmpL ds = true → PyData.canLayAll0 (pyL ds) = true
  | [], _ => rfl
  | d :: ds, h => by
    have h : (cmpD d && cmpL ds) = true := h
    rw [Bool.and_eq_true] at h
    show ((pyD d).canLay0 && PyData.canLayAll0 (pyL ds)) = true
    rw [cmp_lay d h.1, cmp_layL ds h.2]
    rfl
end
mutual
theorem eqv_iff : ∀ d e : D, cmpD d = true → cmpD e = true → (PyData.eqv (pyD d) (pyD e) = true ↔ d = e)
  | .bl _, _, h, _ => by cases h
  | .non, e, _, h => by cases e <;> simp [pyD, PyData.eqv, cmpD] at h ⊢
  | .int i, e, _, h => by cases e <;> simp [pyD, PyData.eqv, cmpD] at h ⊢
  | .str x, e, _, h => by cases e <;> simp [pyD, PyData.eqv, cmpD] at h ⊢
  | .tup ds, .tup es, h, h' => by
    show PyData.eqvAll (pyL ds) (pyL es) = true ↔ _
    rw [eqv_iffL ds es h h']
    simp
  | .tup ds, .non, _, _ => by simp [pyD, PyData.eqv]
  | .tup ds, .bl _, _, h => by cases h
  | .tup ds, .int _, _, _ => by simp [pyD, PyData.eqv]
  | .tup ds, .str _, _, _ => by simp [pyD, PyData.eqv]
theorem eqv_iffL : ∀ ds es : List D, cmpL ds = true → cmpL es = true → (PyData.eqvAll (pyL ds) (pyL es) = true ↔ ds = es)
  | [], [], _, _ => by simp [pyL, PyData.eqvAll]
  | [], _ :: _, _, _ => by simp [pyL, PyData.eqvAll]
  | _ :: _, [], _, _ => by simp [pyL, PyData.eqvAll]
  | d :: ds, e :: es, h, h' => by
    have h : (cmpD d && cmpL ds) = true := h
    have h' : (cmpD e && cmpL es) = true := h'
    rw [Bool.and_eq_true] at h h'
    show (PyData.eqv (pyD d) (pyD e) && PyData.eqvAll (pyL ds) (pyL es)) = true ↔ _
    rw [Bool.and_eq_true, eqv_iff d e h.1 h'.1, eqv_iffL ds es h.2 h'.2]
    simp
end
noncomputable def rEqD (eq : Bool) : R2 := fun x y H Q => ∃ (d e : D) (z : Bool), Rep H d x ∧ Rep H e y ∧ depth d ≤ 60 ∧ depth e ≤ 60 ∧ cmpD d = true ∧ cmpD e = true ∧ (z = true ↔ d = e) ∧ Q (.bl (z == eq)) H
theorem shp {d : D} (h : cmpD d = true) (hd : depth d ≤ 60) : SeqAt.shaped (pyD d) = true := by
  unfold SeqAt.shaped
  rw [cmp_lay d h, Bool.true_and]
  exact decide_eq_true (Nat.le_trans (py_depth d) (by omega))
theorem eqv_z {d e : D} {z : Bool} (h1 : cmpD d = true) (h2 : cmpD e = true) (hz : z = true ↔ d = e) : PyData.eqv (pyD d) (pyD e) = z := by
  have := eqv_iff d e h1 h2
  cases z with
  | true => exact this.mpr (hz.mp rfl)
  | false =>
    cases q : PyData.eqv (pyD d) (pyD e) with
    | false => rfl
    | true => exact absurd (hz.mpr (this.mp q)) (by simp)
theorem op_eqD {X : Cx} (hu : X.A.units + 64 < cLine) : OpR X (compareOp .Eq) (rEqD true) := by
  intro pins s σ H x y v u Q I rx ry h
  obtain ⟨d, e, z, r1, r2, hd, he, c1, c2, hz, q⟩ := h
  obtain ⟨as, h1⟩ := rep_reads I r1 rx
  obtain ⟨bs, h2⟩ := rep_reads I r2 ry
  refine SeqAt.compareEq_shaped h1 h2 (shp c1 hd) (shp c2 he) hu ⟨_, H, I, ?_, q⟩
  rw [eqv_z c1 c2 hz]
  show Value.bool _ = Value.bool _
  cases z <;> rfl
theorem op_neD2 {X : Cx} (hu : X.A.units + 64 < cLine) : OpR X (compareOp .NotEq) (rEqD false) := by
  intro pins s σ H x y v u Q I rx ry h
  obtain ⟨d, e, z, r1, r2, hd, he, c1, c2, hz, q⟩ := h
  obtain ⟨as, h1⟩ := rep_reads I r1 rx
  obtain ⟨bs, h2⟩ := rep_reads I r2 ry
  refine SeqAt.compareNe_shaped h1 h2 (shp c1 hd) (shp c2 he) hu ⟨_, H, I, ?_, q⟩
  rw [eqv_z c1 c2 hz]
  show Value.bool _ = Value.bool _
  cases z <;> rfl
end L3
end
section
set_option maxHeartbeats 1000000
namespace K40
open PySem L2 L3 KM PyProof.Rows
seal L2.PE L2.PS L2.PSs L2.PT L2.PW L2.PA L2.PG L2.PGs L2.PI L2.PC L2.PO L2.PPs L2.PK L3.PIf L3.PH L3.PB
variable {P : Program} {w : World} {K : PySem.W.Frag} {mg : Str → Option Value} {base : Heap} {t : Adr}
noncomputable abbrev lifD (by_ low : Int) (n : Nat) (d : D) : D := wfD (chgD by_ low) n 0 d
noncomputable abbrev greatD (d : D) : Bool := vastD d || bigD d
structure LfOk (H : Hp) (T : Addr) (n : Nat) (by_ low : Int) (d : D) (v : V) : Prop where
  r : Rep H d v
  rz : Rz d n
  b0 : 0 ≤ by_
  l0 : 0 ≤ low
  tab : TabOk H T tabQ tabP
theorem LfOk.lrz {H : Hp} {T : Addr} {n : Nat} {by_ low : Int} {d : D} {v : V} (h : LfOk H T n by_ low d v) : Rz (lifD by_ low n d) n := by
  obtain ⟨k, wf⟩ := h.rz.wf
  obtain ⟨a, b, c⟩ := wfD_keeps (low := low) h.b0 n 0 d k (Int.le_refl 0) h.rz.dp wf
  exact ⟨⟨k, a⟩, by rw [c]; exact h.rz.dp, by rw [b]; exact h.rz.kn⟩
noncomputable def spLifted (C T : Addr) (n : Nat) : Sp := fun vs H Q E => ∃ (d : D) (v : V) (by_ low : Int), vs = [v, .int by_, .int low] ∧ LfOk H T n by_ low d v ∧
  (∀ (u : V) (H' : Hp), Same H H' → greatD (lifD by_ low n d) = false → Rep H' (lifD by_ low n d) u → Q u H') ∧ (∀ H', Same H H' → greatD (lifD by_ low n d) = true → E (.ref C) none H')
theorem sc_lifted : FnScope ["thing", "by", "low"] ["thing", "by", "low"] (defScope s_lifted) := ⟨rfl, rfl, rfl, by decide +kernel, rfl, by decide +kernel, by decide +kernel⟩
theorem c_lifted {n : Nat} {T : Addr} (D : Df K mg "lifted" s_lifted ["thing", "by", "low"]) (M : Mg mg t) (F_raised : Cal P w K mg CX0 "raised" (n + 5) ["thing", "by", "low"] (spRaised T n)) (F_bounded : Cal P w K mg (CXo P w) "bounded" (n + 4) ["thing"] (spBounded t.Great n)) : Cal P w K mg (CXo P w) "lifted" (n + 6) ["thing", "by", "low"] (spLifted t.Great T n) := by
  refine D.okX sc_lifted (fun vs H Q E h => ?_) (fun base f cdv A outer s H vs Q E hr h => ?_)
  · obtain ⟨d, v, by_, low, rfl, _⟩ := h
    rfl
  obtain ⟨d, v, by_, low, rfl, L, q, qe⟩ := h
  refine ⟨_, (pss_one (ps_ret (pe_fn F_bounded (hr.mono (by omega)) rfl passes_o (pa_cons (pe_fn F_raised (hr.mono (by omega)) rfl pass0 (pa_cons (pv 0) (pa_cons (pv 1) (pa_cons (pv 2) pa_nil)))) pa_nil)))), ?_⟩
  try dsimp only [cxK, cxK2]
  refine ⟨_, rfl, _, rfl, _, rfl, d, v, by_, low, rfl, L.r, L.rz.wf, L.rz.dp, L.tab, fun u H1 s1 r1 => ?_⟩
  exact ⟨_, u, rfl, r1, L.lrz, fun H2 s2 hv => q u H2 (s1.trans s2) hv (r1.mono s2), fun H2 s2 hv => qe H2 (s1.trans s2) hv⟩
structure Ek (K : PySem.W.Frag) (t : Adr) : Prop where
  gr : ExcK K t.Great
  nv : ExcK K t.NoVariable
  ke : ExcK K t.KeeperError
  cg : ClsK K t.Great
  cn : ClsK K t.NoVariable
  s1 : PySem.W.subIn K (.ref t.NoVariable) (.ref t.KeeperError) = some true
  s2 : PySem.W.subIn K (.ref t.Great) (.ref t.KeeperError) = some true
  s3 : PySem.W.subIn K (.ref t.Great) (.ref t.Great) = some true
  vg : PySem.W.kitOne K (.ref t.Great) (.type "ValueError") = some true
  vn : PySem.W.kitOne K (.ref t.NoVariable) (.type "ValueError") = some true
  g0 : PySem.W.kitOne K (.ref t.Great) (.ref t.NoVariable) = some false
  n0 : PySem.W.kitOne K (.ref t.NoVariable) (.ref t.NoVariable) = some true
  g1 : PySem.W.kitOne K (.ref t.Great) (.ref t.NoName) = some false
  n1 : PySem.W.kitOne K (.ref t.NoVariable) (.ref t.NoName) = some false
  g2 : PySem.W.kitOne K (.ref t.Great) (.ref t.NotAll) = some false
  n2 : PySem.W.kitOne K (.ref t.NoVariable) (.ref t.NotAll) = some false
  g3 : PySem.W.kitOne K (.ref t.Great) (.ref t.NotSome) = some false
  n3 : PySem.W.kitOne K (.ref t.NoVariable) (.ref t.NotSome) = some false
  g4 : PySem.W.kitOne K (.ref t.Great) (.ref t.NotSame) = some false
  n4 : PySem.W.kitOne K (.ref t.NoVariable) (.ref t.NotSame) = some false
  g5 : PySem.W.kitOne K (.ref t.Great) (.ref t.Unlike) = some false
  n5 : PySem.W.kitOne K (.ref t.NoVariable) (.ref t.Unlike) = some false
  g6 : PySem.W.kitOne K (.ref t.Great) (.ref t.Great) = some true
  n6 : PySem.W.kitOne K (.ref t.NoVariable) (.ref t.Great) = some false
  g7 : PySem.W.kitOne K (.ref t.Great) (.ref t.Dry) = some false
  n7 : PySem.W.kitOne K (.ref t.NoVariable) (.ref t.Dry) = some false
  g8 : PySem.W.kitOne K (.ref t.Great) (.ref t.NoPlace) = some false
  n8 : PySem.W.kitOne K (.ref t.NoVariable) (.ref t.NoPlace) = some false
  g9 : PySem.W.kitOne K (.ref t.Great) (.ref t.NoStep) = some false
  n9 : PySem.W.kitOne K (.ref t.NoVariable) (.ref t.NoStep) = some false
  g10 : PySem.W.kitOne K (.ref t.Great) (.ref t.NoText) = some false
  n10 : PySem.W.kitOne K (.ref t.NoVariable) (.ref t.NoText) = some false
  g11 : PySem.W.kitOne K (.ref t.Great) (.ref t.NoWord) = some false
  n11 : PySem.W.kitOne K (.ref t.NoVariable) (.ref t.NoWord) = some false
  g12 : PySem.W.kitOne K (.ref t.Great) (.ref t.TwiceTold) = some false
  n12 : PySem.W.kitOne K (.ref t.NoVariable) (.ref t.TwiceTold) = some false
  g13 : PySem.W.kitOne K (.ref t.Great) (.ref t.NotClosed) = some false
  n13 : PySem.W.kitOne K (.ref t.NoVariable) (.ref t.NotClosed) = some false
noncomputable abbrev Sq (K : PySem.W.Frag) (H : Hp) (p : Addr) (us : List V) : Prop := SqL K H p us ∨ SqT K H p us
noncomputable def spKindAt (K : PySem.W.Frag) (N G T : Addr) (n : Nat) : Sp := fun vs H Q E => ∃ (p : Addr) (us : List V) (k : Int), vs = [.ref p, .int k] ∧ Sq K H p us ∧ 0 ≤ k ∧ us.length ≤ 1000 ∧ (∀ H', (us.length : Int) ≤ k → Same H H' → E (.ref N) none H') ∧
  (∀ (j : Nat) (v : V), k = (j : Nat) → us[j]? = some v → ∃ d, LfOk H T n (k + 1) 0 d v ∧ (∀ (u : V) (H' : Hp), Same H H' → greatD (lifD (k + 1) 0 n d) = false → Rep H' (lifD (k + 1) 0 n d) u → Q u H') ∧ (∀ H', Same H H' → greatD (lifD (k + 1) 0 n d) = true → E (.ref G) none H'))
theorem sc_kind_at : FnScope ["context", "number"] ["context", "number"] (defScope s_kind_at) := ⟨rfl, rfl, rfl, by decide +kernel, rfl, by decide +kernel, by decide +kernel⟩
theorem c_kind_at {n : Nat} {T : Addr} (D : Df K mg "kind_at" s_kind_at ["context", "number"]) (M : Mg mg t) (X : Ek K t) (F_is_number : Cal P w K mg CX0 "is_number" (1) ["value"] spNumber) (F_lifted : Cal P w K mg (CXo P w) "lifted" (n + 6) ["thing", "by", "low"] (spLifted t.Great T n)) : Cal P w K mg (CXo P w) "kind_at" (n + 7) ["context", "number"] (spKindAt K t.NoVariable t.Great T n) := by
  refine D.okX sc_kind_at (fun vs H Q E h => ?_) (fun base f cdv A outer s H vs Q E hr h => ?_)
  · obtain ⟨p, us, k, rfl, _⟩ := h
    rfl
  obtain ⟨p, us, k, rfl, S, k0, lu, qe, q⟩ := h
  have E_NoVariable := X.nv
  refine ⟨_, (pss_cons (ps_if (L2.PW.pt (pw_or (pt_not (pt_val (pe_fn F_is_number (hr.mono (by omega)) rfl pass0 (pa_cons (pv 1) pa_nil)))) (pw_or1 (pt_not (pt_chain op_le op_lt pe_int (pv 1) (pe_callB call_len_seq rfl M.n_len bt_len (pa_cons (pv 0) pa_nil))))))) (pss_one (ps_raise (G := (fun H' => E (.ref t.NoVariable) none H')) E_NoVariable M.g_NoVariable (pa_cons pe_str pa_nil) (fun pins σ H s e h' I m q => xe_made I m q))) pss_nil)
      (pss_one (ps_ret (pe_fn F_lifted (hr.mono (by omega)) rfl passes_o (pa_cons (pe_ix ix_seq (pv 0) (pv 1) (fun _ _ => rfl)) (pa_cons (pe_op op_add (pv 1) pe_int) (pa_cons pe_int pa_nil))))))), ?_⟩
  try dsimp only [cxK, cxK2]
  refine let2 ?_
  intro _ _
  refine ⟨_, rfl, .int k, .int k, rfl, rfl, _, rfl, iteF ?_⟩
  refine ⟨_, rfl, _, _, rfl, rfl, _, rfl, ite2 (fun _ => ?_) (fun c => absurd (decide_eq_true k0) c)⟩
  refine ⟨_, rfl, p, us, rfl, S, _, _, rfl, rfl, _, rfl, ite2 (fun c => ?_) (fun c => ?_)⟩
  · have c : ¬ k < ((us.length : Nat) : Int) := by simpa using c
    exact ⟨by decide, qe H (by omega) (Same.refl H)⟩
  · have c : k < ((us.length : Nat) : Int) := by simpa using c
    obtain ⟨j, rfl⟩ : ∃ j : Nat, k = (j : Nat) := ⟨k.toNat, by omega⟩
    obtain ⟨v, hv⟩ : ∃ v, us[j]? = some v := ⟨_, List.getElem?_eq_getElem (by omega)⟩
    obtain ⟨d, L, q1, q2⟩ := q j v rfl hv
    refine ⟨_, rfl, _, rfl, ?_⟩
    have key : ∀ R : V → Hp → Prop, R v H → rIx K (.ref p) (.int ((j : Nat) : Int)) H R := fun R hR => by
      rcases S with S | S
      · exact .inl ⟨p, us, _, v, rfl, rfl, S, atI_nat hv, hR⟩
      · exact .inr (.inl ⟨p, us, _, v, rfl, rfl, S, atI_nat hv, hR⟩)
    exact key _ ⟨_, rfl, _, _, rfl, rfl, d, v, _, 0, rfl, L, q1, q2⟩
theorem kit_none {K : PySem.W.Frag} {x : Value} : ∀ {cs : List Value}, (∀ c ∈ cs, PySem.W.kitOne K x c = some false) → PySem.W.kitAny K x cs = some false
  | [], _ => rfl
  | c :: cs, h => by
    unfold PySem.W.kitAny
    rw [h c (by simp), kit_none fun c' hc => h c' (List.mem_cons_of_mem _ hc)]
noncomputable def wordC (t : Adr) (C : Addr) (x : Str) : Prop := (C = t.NoVariable ∧ x = "novariable") ∨ (C = t.Great ∧ x = "great")
noncomputable def spWord (t : Adr) (base : Heap) : Sp := fun vs H Q _ => ∃ (a C : Addr) (oe : Obj) (x : Str), vs = [.ref a] ∧ base.get? a = some oe ∧ oe.cls = .ref C ∧ wordC t C x ∧ ∀ H', Same H H' → Q (.str x) H'
theorem sc_law_word_of : FnScope ["_law_e", "_law_words"] ["_law_e"] (defScope s_law_word_of) := ⟨rfl, rfl, rfl, by decide +kernel, rfl, by decide +kernel, by decide +kernel⟩
theorem c_law_word_of (D : Df K mg "_law_word_of" s_law_word_of ["_law_e"]) (M : Mg mg t) (X : Ek K t) : CalB P w K mg CX0 "_law_word_of" 1 ["_law_e"] (spWord t) := by
  refine D.okB sc_law_word_of (fun base vs H Q E h => ?_) (fun base f cdv A outer s H vs Q E hr h => ?_)
  · obtain ⟨a, C, oe, x, rfl, _⟩ := h
    rfl
  obtain ⟨a, C, oe, x, rfl, hbe, hoe, hw, q⟩ := h
  refine ⟨_, (pss_cons (ps_set (i := 1) sc_law_word_of.nd rfl (by first | exact Or.inl rfl | exact Or.inr rfl) (pe_lst pa_nil))
      (pss_cons (ps_if (pt_val (pe_callB (call_isB (K := K) hbe hoe) rfl M.n_isinstance bt_isinstance (pa_cons (pv 0) (pa_cons (pe_gref M.g_NoVariable rfl) pa_nil)))) (pss_one (ps_expr (pe_bm PySem.F.plainAttrs_list PySem.F.slot_list_append PySem.F.type_list_append mt_append (pv 1) (pa_cons pe_str pa_nil)))) pss_nil)
      (pss_cons (ps_if (pt_val (pe_callB (call_isB (K := K) hbe hoe) rfl M.n_isinstance bt_isinstance (pa_cons (pv 0) (pa_cons (pe_gref M.g_NoName rfl) pa_nil)))) (pss_one (ps_expr (pe_bm PySem.F.plainAttrs_list PySem.F.slot_list_append PySem.F.type_list_append mt_append (pv 1) (pa_cons pe_str pa_nil)))) pss_nil)
      (pss_cons (ps_if (pt_val (pe_callB (call_isB (K := K) hbe hoe) rfl M.n_isinstance bt_isinstance (pa_cons (pv 0) (pa_cons (pe_gref M.g_NotAll rfl) pa_nil)))) (pss_one (ps_expr (pe_bm PySem.F.plainAttrs_list PySem.F.slot_list_append PySem.F.type_list_append mt_append (pv 1) (pa_cons pe_str pa_nil)))) pss_nil)
      (pss_cons (ps_if (pt_val (pe_callB (call_isB (K := K) hbe hoe) rfl M.n_isinstance bt_isinstance (pa_cons (pv 0) (pa_cons (pe_gref M.g_NotSome rfl) pa_nil)))) (pss_one (ps_expr (pe_bm PySem.F.plainAttrs_list PySem.F.slot_list_append PySem.F.type_list_append mt_append (pv 1) (pa_cons pe_str pa_nil)))) pss_nil)
      (pss_cons (ps_if (pt_val (pe_callB (call_isB (K := K) hbe hoe) rfl M.n_isinstance bt_isinstance (pa_cons (pv 0) (pa_cons (pe_gref M.g_NotSame rfl) pa_nil)))) (pss_one (ps_expr (pe_bm PySem.F.plainAttrs_list PySem.F.slot_list_append PySem.F.type_list_append mt_append (pv 1) (pa_cons pe_str pa_nil)))) pss_nil)
      (pss_cons (ps_if (pt_val (pe_callB (call_isB (K := K) hbe hoe) rfl M.n_isinstance bt_isinstance (pa_cons (pv 0) (pa_cons (pe_gref M.g_Unlike rfl) pa_nil)))) (pss_one (ps_expr (pe_bm PySem.F.plainAttrs_list PySem.F.slot_list_append PySem.F.type_list_append mt_append (pv 1) (pa_cons pe_str pa_nil)))) pss_nil)
      (pss_cons (ps_if (pt_val (pe_callB (call_isB (K := K) hbe hoe) rfl M.n_isinstance bt_isinstance (pa_cons (pv 0) (pa_cons (pe_gref M.g_Great rfl) pa_nil)))) (pss_one (ps_expr (pe_bm PySem.F.plainAttrs_list PySem.F.slot_list_append PySem.F.type_list_append mt_append (pv 1) (pa_cons pe_str pa_nil)))) pss_nil)
      (pss_cons (ps_if (pt_val (pe_callB (call_isB (K := K) hbe hoe) rfl M.n_isinstance bt_isinstance (pa_cons (pv 0) (pa_cons (pe_gref M.g_Dry rfl) pa_nil)))) (pss_one (ps_expr (pe_bm PySem.F.plainAttrs_list PySem.F.slot_list_append PySem.F.type_list_append mt_append (pv 1) (pa_cons pe_str pa_nil)))) pss_nil)
      (pss_cons (ps_if (L2.PW.pt (pw_or (pt_val (pe_callB (call_isBT (K := K) hbe hoe) rfl M.n_isinstance bt_isinstance (pa_cons (pv 0) (pa_cons (pe_tup (pa_cons (pe_gref M.g_NoPlace rfl) (pa_cons (pe_gref M.g_NoStep rfl) (pa_cons (pe_gref M.g_NoText rfl) (pa_cons (pe_gref M.g_NoWord rfl) (pa_cons (pe_gref M.g_TwiceTold rfl) (pa_cons (pe_gref M.g_NotClosed rfl) pa_nil))))))) pa_nil)))) (pw_or1 (pt_not (pt_val (pe_callB (call_isB (K := K) hbe hoe) rfl M.n_isinstance bt_isinstance (pa_cons (pv 0) (pa_cons (pe_ty M.n_ValueError bt_ValueError rfl) pa_nil)))))))) (pss_one (ps_expr (pe_bm PySem.F.plainAttrs_list PySem.F.slot_list_append PySem.F.type_list_append mt_append (pv 1) (pa_cons pe_str pa_nil)))) pss_nil)
      (pss_one (ps_ret (pe_bm PySem.F.plainAttrs_str PySem.F.slot_str_join PySem.F.type_str_join mt_join pe_str (pa_cons (pv 1) pa_nil)))))))))))))), ?_⟩
  try dsimp only [cxK, cxK2]
  refine let11 ?_
  intro _ _ _ _ _ _ _ _ _ _ _
  refine ⟨(by show 0 ≤ sizeLine; decide), fun p hp => ?_⟩
  have s1 := same_new hp (.lst [])
  have h1 : (upd H p (.lst [])) p = some (.lst []) := upd_same
  generalize upd H p (.lst []) = H1 at s1 h1 ⊢
  rcases hw with ⟨rfl, rfl⟩ | ⟨rfl, rfl⟩
  · skip
    refine ⟨_, rfl, .ref t.NoVariable, .ref t.NoVariable, true, rfl, X.cn, fun u h => h, X.n0, true, rfl, iteT ?_⟩
    refine ⟨_, rfl, .inl ⟨rfl, _, SqL.of h1⟩, p, _, _, rfl, rfl, h1, (by show 0 < sizeLine; decide), ?_⟩
    have x2 : SameX p H1 (upd H1 p (.lst [V.str "novariable"])) := SameX.upd _
    have h2 : (upd H1 p (.lst [V.str "novariable"])) p = some (.lst ([Str.ofString "novariable"].map V.str)) := upd_same
    show _
    refine ⟨_, rfl, .ref t.NoName, .ref t.NoName, false, rfl, X.cn, fun u h => h, X.n1, false, rfl, iteF ?_⟩
    refine ⟨_, rfl, .ref t.NotAll, .ref t.NotAll, false, rfl, X.cn, fun u h => h, X.n2, false, rfl, iteF ?_⟩
    refine ⟨_, rfl, .ref t.NotSome, .ref t.NotSome, false, rfl, X.cn, fun u h => h, X.n3, false, rfl, iteF ?_⟩
    refine ⟨_, rfl, .ref t.NotSame, .ref t.NotSame, false, rfl, X.cn, fun u h => h, X.n4, false, rfl, iteF ?_⟩
    refine ⟨_, rfl, .ref t.Unlike, .ref t.Unlike, false, rfl, X.cn, fun u h => h, X.n5, false, rfl, iteF ?_⟩
    refine ⟨_, rfl, .ref t.Great, .ref t.Great, false, rfl, X.cn, fun u h => h, X.n6, false, rfl, iteF ?_⟩
    refine ⟨_, rfl, .ref t.Dry, .ref t.Dry, false, rfl, X.cn, fun u h => h, X.n7, false, rfl, iteF ?_⟩
    refine ⟨_, rfl, (by show 6 ≤ sizeLine; decide), fun tp htp => ⟨tp, [t.NoPlace, t.NoStep, t.NoText, t.NoWord, t.TwiceTold, t.NotClosed], false, rfl, X.cn, upd_same, kit_none (fun z hz => ?_), false, rfl, iteF ?_⟩⟩
    · simp only [List.map_cons, List.map_nil, List.mem_cons, List.not_mem_nil, or_false] at hz
      rcases hz with rfl | rfl | rfl | rfl | rfl | rfl
      · exact X.n8
      · exact X.n9
      · exact X.n10
      · exact X.n11
      · exact X.n12
      · exact X.n13
    refine ⟨_, rfl, .ty "ValueError", .type "ValueError", true, rfl, X.cn, fun u h => h, X.vn, true, rfl, iteF ?_⟩
    have t3 := same_new htp (.tup [V.ref t.NoPlace, V.ref t.NoStep, V.ref t.NoText, V.ref t.NoWord, V.ref t.TwiceTold, V.ref t.NotClosed])
    have e : Txt.join (Str.ofString "") [Str.ofString "novariable"] = "novariable" := by decide +kernel
    have fin := q _ (fun b o hb => t3 _ _ (x2 _ _ (ne_of_none hb hp) (s1 _ _ hb)))
    rw [← e] at fin
    exact ⟨(by first | exact rfl | trivial | exact ⟨_, rfl⟩), _, rfl, _, p, [Str.ofString "novariable"], rfl, rfl, SqL.of (t3 _ _ h2), (by decide +kernel), fin⟩
  · skip
    refine ⟨_, rfl, .ref t.NoVariable, .ref t.NoVariable, false, rfl, X.cg, fun u h => h, X.g0, false, rfl, iteF ?_⟩
    refine ⟨_, rfl, .ref t.NoName, .ref t.NoName, false, rfl, X.cg, fun u h => h, X.g1, false, rfl, iteF ?_⟩
    refine ⟨_, rfl, .ref t.NotAll, .ref t.NotAll, false, rfl, X.cg, fun u h => h, X.g2, false, rfl, iteF ?_⟩
    refine ⟨_, rfl, .ref t.NotSome, .ref t.NotSome, false, rfl, X.cg, fun u h => h, X.g3, false, rfl, iteF ?_⟩
    refine ⟨_, rfl, .ref t.NotSame, .ref t.NotSame, false, rfl, X.cg, fun u h => h, X.g4, false, rfl, iteF ?_⟩
    refine ⟨_, rfl, .ref t.Unlike, .ref t.Unlike, false, rfl, X.cg, fun u h => h, X.g5, false, rfl, iteF ?_⟩
    refine ⟨_, rfl, .ref t.Great, .ref t.Great, true, rfl, X.cg, fun u h => h, X.g6, true, rfl, iteT ?_⟩
    refine ⟨_, rfl, .inl ⟨rfl, _, SqL.of h1⟩, p, _, _, rfl, rfl, h1, (by show 0 < sizeLine; decide), ?_⟩
    have x2 : SameX p H1 (upd H1 p (.lst [V.str "great"])) := SameX.upd _
    have h2 : (upd H1 p (.lst [V.str "great"])) p = some (.lst ([Str.ofString "great"].map V.str)) := upd_same
    show _
    refine ⟨_, rfl, .ref t.Dry, .ref t.Dry, false, rfl, X.cg, fun u h => h, X.g7, false, rfl, iteF ?_⟩
    refine ⟨_, rfl, (by show 6 ≤ sizeLine; decide), fun tp htp => ⟨tp, [t.NoPlace, t.NoStep, t.NoText, t.NoWord, t.TwiceTold, t.NotClosed], false, rfl, X.cg, upd_same, kit_none (fun z hz => ?_), false, rfl, iteF ?_⟩⟩
    · simp only [List.map_cons, List.map_nil, List.mem_cons, List.not_mem_nil, or_false] at hz
      rcases hz with rfl | rfl | rfl | rfl | rfl | rfl
      · exact X.g8
      · exact X.g9
      · exact X.g10
      · exact X.g11
      · exact X.g12
      · exact X.g13
    refine ⟨_, rfl, .ty "ValueError", .type "ValueError", true, rfl, X.cg, fun u h => h, X.vg, true, rfl, iteF ?_⟩
    have t3 := same_new htp (.tup [V.ref t.NoPlace, V.ref t.NoStep, V.ref t.NoText, V.ref t.NoWord, V.ref t.TwiceTold, V.ref t.NotClosed])
    have e : Txt.join (Str.ofString "") [Str.ofString "great"] = "great" := by decide +kernel
    have fin := q _ (fun b o hb => t3 _ _ (x2 _ _ (ne_of_none hb hp) (s1 _ _ hb)))
    rw [← e] at fin
    exact ⟨(by first | exact rfl | trivial | exact ⟨_, rfl⟩), _, rfl, _, p, [Str.ofString "great"], rfl, rfl, SqL.of (t3 _ _ h2), (by decide +kernel), fin⟩
end K40
end
section
namespace L3
open PySem PySem.Spec PyProof.Rows L2 KM
noncomputable def tCallE (C a : Addr) (sp : Heap → Sp) (E : XK) (t : TA) : TE := fun σ H Q => t σ H fun vs H1 => ∀ (b' : Heap) (oe : Obj), oe.cls = .ref C → b'.get? a = some oe → sp b' vs H1 Q E
theorem pe_fnE {X : Cx} {CX : CXT} {x : Str} {k : Nat} {ps : List Str} {sp : Heap → Sp} {E : XK} {e : Expr} {es : List Expr} {t : TA} {p pos : Pos} {a C : Addr} {oe : Obj} (hpn : (a, oe) ∈ X.pn) (hoe : oe.cls = .ref C) (F : CalB X.prog X.w X.K X.mg CX x k ps sp) (hr : Room k X.A) (hg : Gl X x) (hx : Passes CX X E)
    (ha : PA X (e :: es) t) (hdb : (x == ("__debug__" : Str)) = false := by decide) (he : starEach (e :: es) X.env = (false, eval e X.env) :: starEach es X.env := by rfl) (hpl : (backTo pos (starEach es X.env)).any (·.1) = false := by rfl) (hc : X.calm = true := by rfl) :
    PE X (.Call (.Name x p) (e :: es) [] pos) (tCallE C a sp E t) := by
  obtain ⟨f, fd, F, m, kp, b⟩ := F
  intro pins s σ H Q I h
  refine wpAny_Call_Name_kw (ld_glob I hg m ?_ hdb)
  refine PySem.W.callWith_K (h₀ := X.base) I.ok.mod.kin kp (thn (ha pos pins s σ H _ I h) fun us s1 ⟨vs, H1, I1, r, q⟩ => ⟨I1.kIn, ?_⟩) he hpl
  have q := q _ oe hoe ((baseUp I1).pin (a, oe) hpn)
  have hl : us.length = ps.length := by rw [← r.length]; exact (F (hidX s1.heap H1 (frs X.stack))).len _ _ _ _ q
  have bt := b s1 us I1.kIn (by rw [List.append_nil]; exact hl)
  rw [List.append_nil] at bt
  refine wpAny_call (codeAny_mono ((F _).run X.A X.stack s1 H1 ⟨us, []⟩ us vs Q E hr (env1 I1 hc) bt r q) fun r' s' hq => ?_)
  cases r' with
  | error e => exact hx pins σ H1 s1 e s' I1 hq
  | ok fl =>
    cases fl with
    | ret u => exact I1.after hq
    | next => exact False.elim hq
    | brk => exact False.elim hq
    | cont => exact False.elim hq
end L3
end
section
namespace L3
open PySem PySem.Spec PyProof.Rows L2 KM
noncomputable def rNeRefs (K : PySem.W.Frag) : R2 := fun x y H Q => ∃ p q xs ys, x = .ref p ∧ y = .ref q ∧ SqL K H p xs ∧ SqL K H q ys ∧ (∀ z ∈ xs, ∃ a, z = V.ref a) ∧ ((xs = ys ∧ Q (.bl false) H) ∨ (xs.length ≠ ys.length ∧ Q (.bl true) H))
theorem op_neRefs {X : Cx} (hu : X.A.units + 1 < cLine) : OpR X (compareOp .NotEq) (rNeRefs X.K) := by
  intro pins s σ H x y v u Q I rx ry h
  obtain ⟨p, q, xs, ys, rfl, rfl, hx, hy, hr, h⟩ := h
  cases rx
  cases ry
  obtain ⟨its, r1, p1, _⟩ := I.list hx
  obtain ⟨jts, r2, p2, _⟩ := I.list hy
  have l1 := r1.length
  have l2 := r2.length
  rcases h with ⟨rfl, h⟩ | ⟨hs, h⟩
  · refine SeqAt.RcNeAt.lists p1.isList p2.isList (e := fun _ => true) (by simp; omega) (by omega) (fun j h1 h2 => ?_) _ _ _ _ ⟨.bl false, H, I, ?_, h⟩
    · have g1 : j < xs.length := by simpa [l1] using h1
      obtain ⟨u1, e1, k1⟩ := r1.get (i := j) (x := xs[j]) (by simp [g1])
      obtain ⟨u2, e2, k2⟩ := r2.get (i := j) (x := xs[j]) (by simp [g1])
      obtain ⟨a, ea⟩ := hr xs[j] (List.getElem_mem g1)
      rw [ea] at k1 k2
      have m1 : its.toArray[j] = u1 := by
        have : its[j]? = some its.toArray[j] := by simp
        rw [e1] at this
        exact (Option.some.inj this).symm
      have m2 : jts.toArray[j] = u2 := by
        have : jts[j]? = some jts.toArray[j] := by simp
        rw [e2] at this
        exact (Option.some.inj this).symm
      rw [m1, m2, show u1 = Value.ref a from k1, show u2 = Value.ref a from k2]
      exact SeqAt.EqAt.same _
    · show Value.bool _ = Value.bool false
      congr 1
      simp
  · exact SeqAt.RcNeAt.lists_lengths p1.isList p2.isList (by simp; omega) (by omega) _ _ _ _ ⟨.bl true, H, I, rfl, h⟩
end L3
end
section
namespace L3
open PySem PySem.Spec PyProof.Rows L2 KM
noncomputable def Mk (σ : L2.St) (H0 : Hp) (te : TE) (d : D) : Prop := ∀ H, Same H0 H → ∀ R : V → Hp → Prop, (∀ v H', Same H H' → Rep H' d v → R v H') → te σ H R
noncomputable def Mks (σ : L2.St) (H0 : Hp) (ta : TA) (ds : List D) : Prop := ∀ H, Same H0 H → ∀ R : List V → Hp → Prop, (∀ vs H', Same H H' → Reps H' ds vs → R vs H') → ta σ H R
theorem mk_var {σ : L2.St} {H0 : Hp} {i : Nat} {v : V} {d : D} (h : σ[i]? = some (some v)) (r : Rep H0 d v) : Mk σ H0 (tVar i) d := fun H s R hR => ⟨v, h, hR v H (Same.refl H) (r.mono s)⟩
theorem mk_str {σ : L2.St} {H0 : Hp} {x : Str} (h : x.length ≤ 1000 := by decide +kernel) : Mk σ H0 (tC (.str x)) (.str x) := fun H _ R hR => hR _ H (Same.refl H) ⟨rfl, h⟩
theorem mk_int {σ : L2.St} {H0 : Hp} {i : Int} : Mk σ H0 (tC (.int i)) (.int i) := fun H _ R hR => hR _ H (Same.refl H) rfl
theorem mks_nil {σ : L2.St} {H0 : Hp} : Mks σ H0 tNil [] := fun H _ R hR => hR [] H (Same.refl H) rfl
theorem mks_cons {σ : L2.St} {H0 : Hp} {te : TE} {ta : TA} {d : D} {ds : List D} (h1 : Mk σ H0 te d) (h2 : Mks σ H0 ta ds) : Mks σ H0 (tCons te ta) (d :: ds) := fun H s R hR =>
  h1 H s _ fun v H1 s1 r1 => h2 H1 (s.trans s1) _ fun vs H2 s2 r2 => hR _ H2 (s1.trans s2) ⟨v, vs, rfl, r1.mono s2, r2⟩
theorem mk_tup {σ : L2.St} {H0 : Hp} {ta : TA} {ds : List D} (h : Mks σ H0 ta ds) (hl : ds.length ≤ sizeLine := by decide) : Mk σ H0 (tTup ta) (.tup ds) := fun H s R hR =>
  h H s _ fun vs H1 s1 r1 => ⟨by rw [r1.length]; exact hl, fun p hp => hR _ _ (s1.trans (same_new hp _)) ⟨p, vs, rfl, upd_same, r1.mono (same_new hp _)⟩⟩
end L3
end
section
set_option maxHeartbeats 1000000
namespace K40
open PySem L2 L3 KM PyProof.Rows
seal L2.PE L2.PS L2.PSs L2.PT L2.PW L2.PA L2.PG L2.PGs L2.PI L2.PC L2.PO L2.PPs L2.PK L3.PIf L3.PH L3.PB
variable {P : Program} {w : World} {K : PySem.W.Frag} {mg : Str → Option Value} {base : Heap} {t : Adr}
theorem c_cell (D : Df K mg "_law_cell_at" s_law_cell_at ["_law_script", "_law_k"]) (M : Mg mg t) : Cal P w K mg CX0 "_law_cell_at" (1) ["_law_script", "_law_k"] (spCell K) := by
  obtain ⟨f, fd, F, m, b⟩ := D
  exact ⟨f, fd, fun base => ok_cell F M.n_len, m, F.kp, b⟩
noncomputable def gotD (n : Nat) (b : Int) (d : D) : D := if greatD (lifD b 0 n d) = true then .str "great" else lifD b 0 n d
noncomputable def ansD (n : Nat) (ds : List D) (k : Nat) : D := match ds[k]? with
  | some d => gotD n ((k : Int) + 1) d
  | none => .str "novariable"
structure Ctx (H : Hp) (T : Addr) (n : Nat) (ds : List D) (us : List V) : Prop where
  r : Reps H ds us
  rz : ∀ d ∈ ds, Rz d n
  ln : ds.length ≤ 20
  tab : TabOk H T tabQ tabP
noncomputable def spAnswer (K : PySem.W.Frag) (T : Addr) (n : Nat) : Sp := fun vs H Q _ => ∃ (p : Addr) (us : List V) (ds : List D) (k : Nat), vs = [.ref p, .int (k : Nat)] ∧ Sq K H p us ∧ Ctx H T n ds us ∧ ∀ (v : V) (H' : Hp), Same H H' → Rep H' (ansD n ds k) v → Q v H'
theorem sc_law_answer : FnScope ["_law_context_here", "_law_number", "_law_e"] ["_law_context_here", "_law_number"] (defScope s_law_answer) := ⟨rfl, rfl, rfl, by decide +kernel, rfl, by decide +kernel, by decide +kernel⟩
theorem c_law_answer {T : Addr} (D : Df K mg "_law_answer" s_law_answer ["_law_context_here", "_law_number"]) (M : Mg mg t) (X : Ek K t) (F_kind_at : Cal P w K mg (CXo P w) "kind_at" (67) ["context", "number"] (spKindAt K t.NoVariable t.Great T 60)) (F_law_word_of : CalB P w K mg CX0 "_law_word_of" 1 ["_law_e"] (spWord t)) : Cal P w K mg CX0 "_law_answer" (140) ["_law_context_here", "_law_number"] (spAnswer K T 60) := by
  refine D.ok sc_law_answer (fun vs H Q E h => ?_) (fun base f cdv A outer s H vs Q E hr h => ?_)
  · obtain ⟨p, us, ds, k, rfl, _⟩ := h
    rfl
  obtain ⟨p, us, ds, k, rfl, S, c, q⟩ := h
  have E_KeeperError := X.ke
  have hl := c.r.length
  have hh := hr.hd (by decide)
  have hln := c.ln
  refine ⟨_, (pss_one (ps_try rfl rfl rfl (pb_ret F_kind_at (hr.mono (by omega)) rfl rfl (pa_cons (pv 0) (pa_cons (pv 1) pa_nil))) (ph_as (i := 2) true sc_law_answer.nd rfl rfl E_KeeperError M.g_KeeperError rfl (fun _ => hh) (fun a C oe hoe => (pss_one (ps_ret (pe_fnE List.mem_cons_self hoe F_law_word_of ((hr.mono (by omega)).mark) rfl pass0 (pa_cons (pv 2) pa_nil))))) ph_nil))), ?_⟩
  try dsimp only [cxK, cxK2]
  refine ⟨_, rfl, _, rfl, p, us, _, rfl, S, (by omega), (by omega), fun H1 hk s1 => ⟨_, rfl, fun a1 ha1 => ⟨true, X.s1, iteT ?_⟩⟩, fun j v hj hv => ?_⟩
  · refine ⟨_, rfl, fun b' oe hoe hb' => ⟨a1, _, oe, "novariable", rfl, hb', hoe, .inl ⟨rfl, rfl⟩, fun H2 s2 => q _ H2 (s1.trans s2) ?_⟩⟩
    have e : ds[k]? = none := List.getElem?_eq_none (by omega)
    unfold ansD
    rw [e]
    exact ⟨rfl, by decide +kernel⟩
  · have hj : k = j := by omega
    subst hj
    obtain ⟨d, hd, rd⟩ := c.r.get' hv
    have e : ansD 60 ds k = gotD 60 ((k : Int) + 1) d := by
      unfold ansD
      rw [hd]
    rw [e] at q
    unfold gotD at q
    refine ⟨d, ⟨rd, c.rz d (List.mem_of_getElem? hd), by omega, by decide, c.tab⟩, fun u H1 s1 hg r1 => q u H1 s1 ?_, fun H1 s1 hg => ⟨_, rfl, fun a1 ha1 => ⟨true, X.s2, iteT ?_⟩⟩⟩
    · rw [if_neg (by rw [hg]; decide)]
      exact r1
    · refine ⟨_, rfl, fun b' oe hoe hb' => ⟨a1, _, oe, "great", rfl, hb', hoe, .inr ⟨rfl, rfl⟩, fun H2 s2 => q _ H2 (s1.trans s2) ?_⟩⟩
      rw [if_pos hg]
      exact ⟨rfl, by decide +kernel⟩
noncomputable def spLift1 (T : Addr) (n : Nat) : Sp := fun vs H Q _ => ∃ (d : D) (v : V) (b : Int), vs = [v, .int b] ∧ LfOk H T n b 0 d v ∧ ∀ (u : V) (H' : Hp), Same H H' → Rep H' (gotD n b d) u → Q u H'
theorem sc_law_lifted : FnScope ["_law_kind", "_law_by"] ["_law_kind", "_law_by"] (defScope s_law_lifted) := ⟨rfl, rfl, rfl, by decide +kernel, rfl, by decide +kernel, by decide +kernel⟩
theorem c_law_lifted {n : Nat} {T : Addr} (D : Df K mg "_law_lifted" s_law_lifted ["_law_kind", "_law_by"]) (M : Mg mg t) (X : Ek K t) (F_lifted : Cal P w K mg (CXo P w) "lifted" (n + 6) ["thing", "by", "low"] (spLifted t.Great T n)) : Cal P w K mg CX0 "_law_lifted" (n + 7) ["_law_kind", "_law_by"] (spLift1 T n) := by
  refine D.ok sc_law_lifted (fun vs H Q E h => ?_) (fun base f cdv A outer s H vs Q E hr h => ?_)
  · obtain ⟨d, v, b, rfl, _⟩ := h
    rfl
  obtain ⟨d, v, b, rfl, L, q⟩ := h
  have E_Great := X.gr
  refine ⟨_, (pss_one (ps_try rfl rfl rfl (pb_ret F_lifted (hr.mono (by omega)) rfl rfl (pa_cons (pv 0) (pa_cons (pv 1) (pa_cons pe_int pa_nil)))) (ph_cons false E_Great M.g_Great rfl (fun z => nomatch z) (fun a C oe hoe => (pss_one (ps_ret pe_str))) ph_nil))), ?_⟩
  try dsimp only [cxK, cxK2]
  unfold gotD at q
  refine ⟨_, rfl, _, rfl, d, v, b, 0, rfl, L, fun u H1 s1 hg r1 => q u H1 s1 ?_, fun H1 s1 hg => ⟨_, rfl, fun a1 ha1 => ⟨true, X.s3, iteT (q _ H1 s1 ?_)⟩⟩⟩
  · rw [if_neg (by rw [hg]; decide)]
    exact r1
  · rw [if_pos hg]
    exact ⟨rfl, by decide +kernel⟩
noncomputable def natK : D := .tup [.str "nat"]
noncomputable def sameK : D := .tup [.str "same", natK, .tup [.str "var", .int 0], .tup [.str "zero"]]
noncomputable def kinds6 : List D := [natK, .tup [.str "all", natK, natK], .tup [.str "some", natK, natK], .tup [.str "none"], sameK, .tup [.str "all", natK, sameK]]
theorem kind_ref {H : Hp} {d : D} {v : V} (h : d ∈ kinds6) (r : Rep H d v) : ∃ a, v = .ref a := by
  simp only [kinds6, natK, sameK, List.mem_cons, List.not_mem_nil, or_false] at h
  rcases h with rfl | rfl | rfl | rfl | rfl | rfl <;> (obtain ⟨a, _, rfl, _⟩ := r; exact ⟨a, rfl⟩)
theorem kinds_ok : (kinds6.all fun d => cmpD d && decide (depth d ≤ 10)) = true := by decide +kernel
theorem kind_ok {d : D} (h : d ∈ kinds6) : cmpD d = true ∧ depth d ≤ 10 := by
  have := List.all_eq_true.mp kinds_ok d h
  rw [Bool.and_eq_true] at this
  exact ⟨this.1, of_decide_eq_true this.2⟩
theorem nat_mk {σ : L2.St} {H : Hp} : Mk σ H (tTup (tCons (tC (.str "nat")) tNil)) natK := mk_tup (mks_cons mk_str mks_nil)
theorem same_mk {σ : L2.St} {H : Hp} : Mk σ H (tTup (tCons (tC (.str "same")) (tCons (tTup (tCons (tC (.str "nat")) tNil)) (tCons (tTup (tCons (tC (.str "var")) (tCons (tC (.int 0)) tNil))) (tCons (tTup (tCons (tC (.str "zero")) tNil)) tNil))))) sameK :=
  mk_tup (mks_cons mk_str (mks_cons nat_mk (mks_cons (mk_tup (mks_cons mk_str (mks_cons mk_int mks_nil))) (mks_cons (mk_tup (mks_cons mk_str mks_nil)) mks_nil))))
noncomputable def spCtx : Sp := fun vs H Q _ => ∃ c : Int, vs = [.int c] ∧ ∀ (p : Addr) (ds : List D) (us : List V) (H' : Hp), H p = none → Same H H' → H' p = some (.lst us) → Reps H' ds us → (∀ d ∈ ds, d ∈ kinds6) → ds.length ≤ 9 → Q (.ref p) H'
theorem sc_law_context : FnScope ["_law_cell", "_law_made_of", "_law_k", "_law_way", "_law_kind"] ["_law_cell"] (defScope s_law_context) := ⟨rfl, rfl, rfl, by decide +kernel, rfl, by decide +kernel, by decide +kernel⟩
theorem c_law_context (D : Df K mg "_law_context" s_law_context ["_law_cell"]) (M : Mg mg t) : Cal P w K mg CX0 "_law_context" (1) ["_law_cell"] spCtx := by
  refine D.ok sc_law_context (fun vs H Q E h => ?_) (fun base f cdv A outer s H vs Q E hr h => ?_)
  · obtain ⟨c, rfl, _⟩ := h
    rfl
  obtain ⟨c, rfl, q⟩ := h
  have hu := hu_of hr
  refine ⟨_, (pss_cons (ps_set (i := 1) sc_law_context.nd rfl (by first | exact Or.inl rfl | exact Or.inr rfl) (pe_lst pa_nil))
      (pss_cons (ps_for PassesOwn.never rfl (pi_range1 rfl M.n_range (pa_cons (pe_ix ix_list (pe_lst (pa_cons pe_int (pa_cons pe_int (pa_cons pe_int (pa_cons pe_int (pa_cons pe_int (pa_cons pe_int pa_nil))))))) (pe_op op_mod (pv 0) pe_int) (fun _ _ => rfl)) pa_nil)) (pg_name (i := 2) sc_law_context.nd rfl (by first | exact Or.inl rfl | exact Or.inr rfl)) (pss_cons (ps_set (i := 3) sc_law_context.nd rfl (by first | exact Or.inl rfl | exact Or.inr rfl) (pe_op op_mod (pe_op op_add (pe_op op_fdiv (pv 0) pe_int) (pe_op op_mul (pe_op op_add (pe_op op_fdiv (pv 0) pe_int) pe_int) (pv 2))) pe_int))
      (pss_cons (ps_set (i := 4) sc_law_context.nd rfl (by first | exact Or.inl rfl | exact Or.inr rfl) (pe_tup (pa_cons pe_str pa_nil)))
      (pss_cut (ps_if (pt_cmpR op_eq (pv 3) pe_int (nomark _)) (pss_one (ps_set (i := 4) sc_law_context.nd rfl (by first | exact Or.inl rfl | exact Or.inr rfl) (pe_tup (pa_cons pe_str (pa_cons (pe_tup (pa_cons pe_str pa_nil)) (pa_cons (pe_tup (pa_cons pe_str pa_nil)) pa_nil)))))) pss_nil)
      (pss_cut (ps_if (pt_cmpR op_eq (pv 3) pe_int (nomark _)) (pss_one (ps_set (i := 4) sc_law_context.nd rfl (by first | exact Or.inl rfl | exact Or.inr rfl) (pe_tup (pa_cons pe_str (pa_cons (pe_tup (pa_cons pe_str pa_nil)) (pa_cons (pe_tup (pa_cons pe_str pa_nil)) pa_nil)))))) pss_nil)
      (pss_cut (ps_if (pt_cmpR op_eq (pv 3) pe_int (nomark _)) (pss_one (ps_set (i := 4) sc_law_context.nd rfl (by first | exact Or.inl rfl | exact Or.inr rfl) (pe_tup (pa_cons pe_str pa_nil)))) pss_nil)
      (pss_cut (ps_if (L2.PW.pt (pw_and (pt_cmpR op_eq (pv 3) pe_int (nomark _)) (pw_and (pt_cmpR (op_neRefs hu) (pv 1) (pe_lst pa_nil) (nomark _)) (pw_and1 (pt_cmpR (op_eqD hr.units) (pe_ix ix_list (pv 1) pe_int (fun _ _ => rfl)) (pe_tup (pa_cons pe_str pa_nil)) (nomark _)))))) (pss_one (ps_set (i := 4) sc_law_context.nd rfl (by first | exact Or.inl rfl | exact Or.inr rfl) (pe_tup (pa_cons pe_str (pa_cons (pe_tup (pa_cons pe_str pa_nil)) (pa_cons (pe_tup (pa_cons pe_str (pa_cons pe_int pa_nil))) (pa_cons (pe_tup (pa_cons pe_str pa_nil)) pa_nil))))))) pss_nil)
      (pss_cut (ps_if (pt_cmpR op_eq (pv 3) pe_int (nomark _)) (pss_one (ps_set (i := 4) sc_law_context.nd rfl (by first | exact Or.inl rfl | exact Or.inr rfl) (pe_tup (pa_cons pe_str (pa_cons (pe_tup (pa_cons pe_str pa_nil)) (pa_cons (pe_tup (pa_cons pe_str (pa_cons (pe_tup (pa_cons pe_str pa_nil)) (pa_cons (pe_tup (pa_cons pe_str (pa_cons pe_int pa_nil))) (pa_cons (pe_tup (pa_cons pe_str pa_nil)) pa_nil))))) pa_nil)))))) pss_nil)
      (pss_one (ps_set (i := 1) sc_law_context.nd rfl (by first | exact Or.inl rfl | exact Or.inr rfl) (pe_op op_cat (pe_lst (pa_cons (pv 4) pa_nil)) (pv 1))))))))))))
      (pss_one (ps_ret (pv 1))))), ?_⟩
  try dsimp only [cxK, cxK2]
  refine let3 ?_
  intro _ _ _
  refine ⟨(by show 0 ≤ sizeLine; decide), fun p0 hp0 => ?_⟩
  have s0 := same_new hp0 (.lst [])
  have h0 : (upd H p0 (.lst [])) p0 = some (.lst []) := upd_same
  generalize upd H p0 (.lst []) = H0 at s0 h0 ⊢
  refine ⟨(by show 6 ≤ sizeLine; decide), fun pl hpl => ?_⟩
  have t1 := same_new hpl (.lst [V.int 0, .int 1, .int 2, .int 3, .int 5, .int 9])
  have npl : p0 ≠ pl := fun e => by rw [← e, h0] at hpl; cases hpl
  obtain ⟨v1, hv1, hm⟩ := atI_mod (xs := [V.int 0, .int 1, .int 2, .int 3, .int 5, .int 9]) (m := 6) c (by simp) (by decide)
  obtain ⟨m, rfl, hm9⟩ : ∃ m : Nat, v1 = .int (m : Nat) ∧ m ≤ 9 := by
    simp only [List.mem_cons, List.not_mem_nil, or_false] at hm
    rcases hm with rfl | rfl | rfl | rfl | rfl | rfl
    · exact ⟨0, rfl, by decide⟩
    · exact ⟨1, rfl, by decide⟩
    · exact ⟨2, rfl, by decide⟩
    · exact ⟨3, rfl, by decide⟩
    · exact ⟨5, rfl, by decide⟩
    · exact ⟨9, rfl, by decide⟩
  refine ⟨_, rfl, _, _, rfl, rfl, (by show (0 : Int) < 6; decide), pl, _, _, _, rfl, rfl, SqL.of upd_same, hv1, _, rfl, (by omega), (by omega), ?_⟩
  have h01 := t1 _ _ h0
  have s01 := s0.trans t1
  generalize upd H0 pl (.lst [V.int 0, .int 1, .int 2, .int 3, .int 5, .int 9]) = H1 at s01 h01 ⊢
  let Ifr : Nat → L2.St → Hp → Prop := (fun i σ' H' => ∃ (p : Addr) (ds : List KM.D) (us : List V) (a b e : Option V), σ' = [some (.int c), some (.ref p), a, b, e] ∧ H p = none ∧ H' p = some (.lst us) ∧ Reps H' ds us ∧ (∀ d ∈ ds, d ∈ kinds6) ∧ ds.length = i ∧ Same H H')
  refine for_by m Ifr ?_ ?_ ?_
  · exact ⟨p0, [], [], none, none, none, rfl, hp0, h01, rfl, (fun d h => by cases h), rfl, s01⟩
  · rintro i σ' H2 hi ⟨p, ds, us, a, b, e, rfl, hp, h2, r2, k2, l2, s2⟩
    refine ⟨hi, ?_⟩
    rintro x' H2' ⟨rfl, rfl⟩
    refine ⟨_, rfl, _, _, rfl, rfl, ⟨by decide, by decide⟩, _, rfl, _, _, rfl, rfl, ⟨by decide, by decide⟩, _, _, rfl, rfl, _, rfl, _, _, rfl, rfl, .inr ⟨by omega, by omega⟩, _, _, rfl, rfl, _, _, rfl, rfl, (by show (0 : Int) < 6; decide), ?_⟩
    refine ⟨(by show 1 ≤ sizeLine; decide), fun p3 hp3 => ?_⟩
    have s3 := same_new hp3 (.tup [V.str "nat"])
    have r3 : Rep (upd H2' p3 (.tup [V.str "nat"])) natK (.ref p3) := ⟨p3, _, rfl, upd_same, _, _, rfl, ⟨rfl, by decide +kernel⟩, rfl⟩
    generalize upd H2' p3 (.tup [V.str "nat"]) = H3 at s3 r3 ⊢
    refine ⟨(fun σ' H' => ∃ (d : KM.D) (v : V) (wv : Int), σ' = [some (.int c), some (.ref p), some (.int (0 + (i : Int))), some (.int wv), some v] ∧ Rep H' d v ∧ d ∈ kinds6 ∧ Same H2' H'), ?_, ?_⟩
    · refine ⟨_, rfl, rfl, _, rfl, ite2 (fun _ => ?_) (fun _ => ⟨natK, .ref p3, _, rfl, r3, by simp [kinds6], s3⟩)⟩
      exact (mk_tup (mks_cons mk_str (mks_cons nat_mk (mks_cons nat_mk mks_nil)))) H3 (Same.refl _) _ (fun v H' s' r' => ⟨_, v, _, rfl, r', by simp [kinds6], s3.trans s'⟩)
    clear r3 s3 hp3 p3 H3
    rintro σ' H3 ⟨d3, v3, wv, rfl, r3, k3, s3⟩
    refine ⟨(fun σ' H' => ∃ (d : KM.D) (v : V) (wv : Int), σ' = [some (.int c), some (.ref p), some (.int (0 + (i : Int))), some (.int wv), some v] ∧ Rep H' d v ∧ d ∈ kinds6 ∧ Same H2' H'), ?_, ?_⟩
    · refine ⟨_, rfl, rfl, _, rfl, ite2 (fun _ => ?_) (fun _ => ⟨d3, v3, _, rfl, r3, k3, s3⟩)⟩
      exact (mk_tup (mks_cons mk_str (mks_cons nat_mk (mks_cons nat_mk mks_nil)))) H3 (Same.refl _) _ (fun v H' s' r' => ⟨_, v, _, rfl, r', by simp [kinds6], s3.trans s'⟩)
    clear r3 s3 k3 v3 d3 H3 wv
    rintro σ' H3 ⟨d3, v3, wv, rfl, r3, k3, s3⟩
    refine ⟨(fun σ' H' => ∃ (d : KM.D) (v : V) (wv : Int), σ' = [some (.int c), some (.ref p), some (.int (0 + (i : Int))), some (.int wv), some v] ∧ Rep H' d v ∧ d ∈ kinds6 ∧ Same H2' H'), ?_, ?_⟩
    · refine ⟨_, rfl, rfl, _, rfl, ite2 (fun _ => ?_) (fun _ => ⟨d3, v3, _, rfl, r3, k3, s3⟩)⟩
      exact (mk_tup (mks_cons mk_str mks_nil)) H3 (Same.refl _) _ (fun v H' s' r' => ⟨_, v, _, rfl, r', by simp [kinds6], s3.trans s'⟩)
    clear r3 s3 k3 v3 d3 H3 wv
    rintro σ' H3 ⟨d3, v3, wv, rfl, r3, k3, s3⟩
    refine ⟨(fun σ' H' => ∃ (d : KM.D) (v : V) (wv : Int), σ' = [some (.int c), some (.ref p), some (.int (0 + (i : Int))), some (.int wv), some v] ∧ Rep H' d v ∧ d ∈ kinds6 ∧ Same H2' H'), ?_, ?_⟩
    · refine ⟨_, rfl, rfl, _, rfl, ite2 (fun _ => ?_) (fun _ => ⟨d3, v3, _, rfl, r3, k3, s3⟩)⟩
      have refs : ∀ z ∈ us, ∃ a, z = V.ref a := fun z hz => by
        obtain ⟨j, hj⟩ := List.mem_iff_getElem?.mp hz
        obtain ⟨d, hd, rd⟩ := r2.get' hj
        exact kind_ref (k2 d (List.mem_of_getElem? hd)) rd
      refine ⟨_, rfl, (by show 0 ≤ sizeLine; decide), fun pe hpe => ?_⟩
      have t4 := same_new hpe (.lst [])
      have h4 := t4 _ _ (s3 _ _ h2)
      refine ⟨p, pe, us, [], rfl, rfl, SqL.of h4, SqL.of upd_same, refs, ?_⟩
      generalize upd H3 pe (.lst []) = H4 at t4 h4 ⊢
      have s4 := s3.trans t4
      cases us with
      | nil => exact .inl ⟨rfl, _, rfl, iteF ⟨d3, v3, _, rfl, r3.mono t4, k3, s4⟩⟩
      | cons u0 us =>
        refine .inr ⟨by simp, _, rfl, iteT ?_⟩
        obtain ⟨d0, hd0, rd0⟩ := r2.get' (i := 0) (v := u0) rfl
        have k0 := k2 d0 (List.mem_of_getElem? hd0)
        refine ⟨_, rfl, p, _, _, u0, rfl, rfl, SqL.of h4, atI_nat (j := 0) rfl, nat_mk H4 (Same.refl _) _ (fun v5 H5 s5 r5 => ?_)⟩
        have o0 := kind_ok k0
        have on : cmpD natK = true ∧ depth natK ≤ 10 := by decide +kernel
        by_cases e : d0 = natK
        · refine ⟨d0, natK, true, rd0.mono (s4.trans s5), r5, by omega, by omega, o0.1, on.1, ⟨fun _ => e, fun _ => rfl⟩, _, rfl, iteT ?_⟩
          exact same_mk H5 (Same.refl _) _ (fun v H' s' r' => ⟨_, v, _, rfl, r', by simp [kinds6], s4.trans (s5.trans s')⟩)
        · refine ⟨d0, natK, false, rd0.mono (s4.trans s5), r5, by omega, by omega, o0.1, on.1, ⟨fun h => absurd h (by decide), fun h => absurd h e⟩, _, rfl, iteF ?_⟩
          exact ⟨d3, v3, _, rfl, r3.mono (t4.trans s5), k3, s4.trans s5⟩
    clear r3 s3 k3 v3 d3 H3 wv
    rintro σ' H3 ⟨d3, v3, wv, rfl, r3, k3, s3⟩
    refine ⟨(fun σ' H' => ∃ (d : KM.D) (v : V) (wv : Int), σ' = [some (.int c), some (.ref p), some (.int (0 + (i : Int))), some (.int wv), some v] ∧ Rep H' d v ∧ d ∈ kinds6 ∧ Same H2' H'), ?_, ?_⟩
    · refine ⟨_, rfl, rfl, _, rfl, ite2 (fun _ => ?_) (fun _ => ⟨d3, v3, _, rfl, r3, k3, s3⟩)⟩
      exact (mk_tup (mks_cons mk_str (mks_cons nat_mk (mks_cons same_mk mks_nil)))) H3 (Same.refl _) _ (fun v H' s' r' => ⟨_, v, _, rfl, r', by simp [kinds6], s3.trans s'⟩)
    clear r3 s3 k3 v3 d3 H3 wv
    rintro σ' H3 ⟨d3, v3, wv, rfl, r3, k3, s3⟩
    refine ⟨_, rfl, (by show 1 ≤ sizeLine; decide), fun pq hpq => ?_⟩
    have t4 := same_new hpq (.lst [v3])
    have lu := r2.length
    refine ⟨_, rfl, pq, p, [v3], us, rfl, rfl, upd_same, t4 _ _ (s3 _ _ h2), (by rw [List.length_singleton, lu, sizeLine_eq]; omega), fun pr hpr => ?_⟩
    have t5 := same_new hpr (.lst ([v3] ++ us))
    have s5 := s3.trans (t4.trans t5)
    refine ⟨pr, d3 :: ds, v3 :: us, _, _, _, rfl, (s2.trans (s3.trans t4)).free hpr, upd_same, ⟨v3, us, rfl, r3.mono (t4.trans t5), r2.mono s5⟩, fun d hd => ?_, by rw [List.length_cons, l2], s2.trans s5⟩
    rcases List.mem_cons.mp hd with rfl | hd
    · exact k3
    · exact k2 d hd
  · rintro σ' H2 ⟨p, ds, us, a, b, e, rfl, hp, h2, r2, k2, l2, s2⟩
    exact ⟨(by show ((m : Nat) : Int).toNat ≤ m; omega), _, rfl, q p ds us H2 hp s2 h2 r2 k2 (by omega)⟩
end K40
end
section
set_option maxHeartbeats 1000000
namespace K40
open PySem L2 L3 KM PyProof.Rows
seal L2.PE L2.PS L2.PSs L2.PT L2.PW L2.PA L2.PG L2.PGs L2.PI L2.PC L2.PO L2.PPs L2.PK L3.PIf L3.PH L3.PB
variable {P : Program} {w : World} {K : PySem.W.Frag} {mg : Str → Option Value} {base : Heap} {t : Adr}
noncomputable def nonK : D := .tup [.str "all", natK, .tup [.str "none"]]
noncomputable def farK (j : Nat) : D := .tup [.str "same", natK, .tup [.str "var", .int (90 + (j : Nat))], .tup [.str "fun", natK, .tup [.str "var", .int (90 + (j : Nat))]]]
noncomputable def allK : List D := (natK :: nonK :: kinds6) ++ (List.range 10).map farK
theorem all_ok : (allK.all fun d => wfG isStrD true d && (decide (depth d < 60) && (decide (knots d ≤ 100) && (List.range 13).all fun k => cmpD (gotD 60 ((k : Int) + 1) d) && decide (depth (gotD 60 ((k : Int) + 1) d) ≤ 60)))) = true := by decide +kernel
theorem all_rz {d : D} (h : d ∈ allK) : Rz d 60 ∧ ∀ k : Nat, k < 13 → cmpD (gotD 60 ((k : Int) + 1) d) = true ∧ depth (gotD 60 ((k : Int) + 1) d) ≤ 60 := by
  have := List.all_eq_true.mp all_ok d h
  rw [Bool.and_eq_true, Bool.and_eq_true, Bool.and_eq_true] at this
  obtain ⟨a, b, c, e⟩ := this
  refine ⟨⟨⟨true, a⟩, of_decide_eq_true b, Nat.le_trans (of_decide_eq_true c) (by decide)⟩, fun k hk => ?_⟩
  have := List.all_eq_true.mp e k (List.mem_range.mpr hk)
  rw [Bool.and_eq_true] at this
  exact ⟨this.1, of_decide_eq_true this.2⟩
theorem ans_ok {ds : List D} (h : ∀ d ∈ ds, d ∈ allK) (k : Nat) (hk : k < 13) : cmpD (ansD 60 ds k) = true ∧ depth (ansD 60 ds k) ≤ 60 := by
  unfold ansD
  cases e : ds[k]? with
  | none => exact ⟨(by decide +kernel : cmpD (.str "novariable") = true), (by decide +kernel : depth (.str "novariable") ≤ 60)⟩
  | some d => exact (all_rz (h d (List.mem_of_getElem? e))).2 k hk
theorem kinds_all {d : D} (h : d ∈ kinds6) : d ∈ allK := List.mem_append_left _ (List.mem_cons_of_mem _ (List.mem_cons_of_mem _ h))
theorem all_ref {H : Hp} {d : D} {v : V} (h : d ∈ allK) (r : Rep H d v) : ∃ a, v = .ref a := by
  rcases List.mem_append.mp h with h | h
  · rcases List.mem_cons.mp h with rfl | h
    · obtain ⟨a, _, rfl, _⟩ := r; exact ⟨a, rfl⟩
    · rcases List.mem_cons.mp h with rfl | h
      · obtain ⟨a, _, rfl, _⟩ := r; exact ⟨a, rfl⟩
      · exact kind_ref h r
  · obtain ⟨j, _, rfl⟩ := List.mem_map.mp h
    obtain ⟨a, _, rfl, _⟩ := r; exact ⟨a, rfl⟩
noncomputable def spLaw (K : PySem.W.Frag) (T : Addr) : Sp := fun vs H Q _ => ∃ (a : Addr) (ns : List Int), vs = [.ref a] ∧ SqL K H a (ns.map V.int) ∧ TabOk H T tabQ tabP ∧ ∀ H', Q (.bl true) H'
theorem sc_law : FnScope ["_law_script", "_law_context_here", "_law_far", "_law_side", "_law_number", "_law_handed", "_law_got", "_law_due", "_law_further"] ["_law_script"] (defScope s_law) := ⟨rfl, rfl, rfl, by decide +kernel, rfl, by decide +kernel, by decide +kernel⟩
theorem c_law {f T : Addr} {fd : FuncData} (F : Fun K "law" "law" s_law f fd) (M : Mg mg t) (F_law_cell_at : Cal P w K mg CX0 "_law_cell_at" (1) ["_law_script", "_law_k"] (spCell K)) (F_law_context : Cal P w K mg CX0 "_law_context" (1) ["_law_cell"] spCtx) (F_law_answer : Cal P w K mg CX0 "_law_answer" (140) ["_law_context_here", "_law_number"] (spAnswer K T 60)) (F_law_lifted : Cal P w K mg CX0 "_law_lifted" (67) ["_law_kind", "_law_by"] (spLift1 T 60)) : FnOk P w K mg base CX0 141 f fd ["_law_script"] (spLaw K T) := by
  refine F.ok sc_law (fun vs H Q E h => ?_) (fun cdv A outer s H vs Q E hr h => ?_)
  · obtain ⟨a, ns, rfl, _⟩ := h
    rfl
  obtain ⟨a, ns, rfl, S, hT, q⟩ := h
  have hu := hu_of hr
  refine ⟨_, (pss_cons (ps_set (i := 1) sc_law.nd rfl (by first | exact Or.inl rfl | exact Or.inr rfl) (pe_fn F_law_context (hr.mono (by omega)) rfl pass0 (pa_cons (pe_fn F_law_cell_at (hr.mono (by omega)) rfl pass0 (pa_cons (pv 0) (pa_cons pe_int pa_nil))) pa_nil)))
      (pss_cons (ps_set (i := 2) sc_law.nd rfl (by first | exact Or.inl rfl | exact Or.inr rfl) (pe_cmpR op_eq (pe_op op_mod (pe_fn F_law_cell_at (hr.mono (by omega)) rfl pass0 (pa_cons (pv 0) (pa_cons pe_int pa_nil))) pe_int) pe_int (nomark _)))
      (pss_cut (ps_if (pt_val (pv 2)) (pss_cons (ps_set (i := 3) sc_law.nd rfl (by first | exact Or.inl rfl | exact Or.inr rfl) (pe_tup (pa_cons pe_str (pa_cons (pe_op op_add pe_int (pe_op op_mod (pe_op op_fdiv (pe_fn F_law_cell_at (hr.mono (by omega)) rfl pass0 (pa_cons (pv 0) (pa_cons pe_int pa_nil))) pe_int) pe_int)) pa_nil))))
      (pss_one (ps_expr (pe_bm PySem.F.plainAttrs_list PySem.F.slot_list_append PySem.F.type_list_append mt_append (pv 1) (pa_cons (pe_tup (pa_cons pe_str (pa_cons (pe_tup (pa_cons pe_str pa_nil)) (pa_cons (pv 3) (pa_cons (pe_tup (pa_cons pe_str (pa_cons (pe_tup (pa_cons pe_str pa_nil)) (pa_cons (pv 3) pa_nil)))) pa_nil))))) pa_nil))))) pss_nil)
      (pss_cut (ps_set (i := 4) sc_law.nd rfl (by first | exact Or.inl rfl | exact Or.inr rfl) (pe_op op_mod (pe_fn F_law_cell_at (hr.mono (by omega)) rfl pass0 (pa_cons (pv 0) (pa_cons pe_int pa_nil))) (pe_op op_add (pe_callB call_len_seq rfl M.n_len bt_len (pa_cons (pv 1) pa_nil)) pe_int)))
      (pss_cut (ps_set (i := 5) sc_law.nd rfl (by first | exact Or.inl rfl | exact Or.inr rfl) (pe_ix ix_list (pe_lst (pa_cons (pe_callTy call_list_of rfl M.n_list bt_list (pa_cons (pv 1) pa_nil)) (pa_cons (pe_callTy call_tuple_of rfl M.n_tuple bt_tuple (pa_cons (pv 1) pa_nil)) pa_nil))) (pe_op op_mod (pe_fn F_law_cell_at (hr.mono (by omega)) rfl pass0 (pa_cons (pv 0) (pa_cons pe_int pa_nil))) pe_int) (fun _ _ => rfl)))
      (pss_cut (ps_set (i := 6) sc_law.nd rfl (by first | exact Or.inl rfl | exact Or.inr rfl) (pe_fn F_law_answer (hr.mono (by omega)) rfl pass0 (pa_cons (pv 5) (pa_cons (pv 4) pa_nil))))
      (pss_cons (ps_if (pt_cmpR (op_neRefs hu) (pe_callTy call_list_of rfl M.n_list bt_list (pa_cons (pv 5) pa_nil)) (pv 1) (nomark _)) (pss_one (ps_ret pe_bl)) pss_nil)
      (pss_cons (ps_set (i := 7) sc_law.nd rfl (by first | exact Or.inl rfl | exact Or.inr rfl) pe_str)
      (pss_cut (ps_if (pt_cmpR op_lt (pv 4) (pe_callB call_len_seq rfl M.n_len bt_len (pa_cons (pv 1) pa_nil)) (nomark _)) (pss_one (ps_set (i := 7) sc_law.nd rfl (by first | exact Or.inl rfl | exact Or.inr rfl) (pe_fn F_law_lifted (hr.mono (by omega)) rfl pass0 (pa_cons (pe_ix ix_list (pv 1) (pv 4) (fun _ _ => rfl)) (pa_cons (pe_op op_add (pv 4) pe_int) pa_nil))))) pss_nil)
      (pss_cons (ps_if (pt_cmpR (op_neD2 hr.units) (pv 6) (pv 7) (nomark _)) (pss_one (ps_ret pe_bl)) pss_nil)
      (pss_cons (ps_set (i := 8) sc_law.nd rfl (by first | exact Or.inl rfl | exact Or.inr rfl) (pe_callTy call_list_of rfl M.n_list bt_list (pa_cons (pv 5) pa_nil)))
      (pss_cons (ps_expr (pe_fn F_law_answer (hr.mono (by omega)) rfl pass0 (pa_cons (pv 8) (pa_cons (pv 4) pa_nil))))
      (pss_cons (ps_expr (pe_bm PySem.F.plainAttrs_list PySem.F.slot_list_insert PySem.F.type_list_insert mt_insert (pv 8) (pa_cons pe_int (pa_cons (pe_tup (pa_cons pe_str (pa_cons (pe_tup (pa_cons pe_str pa_nil)) (pa_cons (pe_tup (pa_cons pe_str pa_nil)) pa_nil)))) pa_nil))))
      (pss_cons (ps_set (i := 7) sc_law.nd rfl (by first | exact Or.inl rfl | exact Or.inr rfl) (pe_fn F_law_lifted (hr.mono (by omega)) rfl pass0 (pa_cons (pe_ix ix_list (pe_op op_cat (pv 8) (pe_lst (pa_cons (pe_tup (pa_cons pe_str pa_nil)) pa_nil))) (pv 4) (fun _ _ => rfl)) (pa_cons (pe_op op_add (pv 4) pe_int) pa_nil))))
      (pss_one (ps_ret (pe_or (pe_cmpR op_ge (pv 4) (pe_callB call_len_seq rfl M.n_len bt_len (pa_cons (pv 8) pa_nil)) (nomark _)) (pe_one (pe_cmpR (op_eqD hr.units) (pe_fn F_law_answer (hr.mono (by omega)) rfl pass0 (pa_cons (pv 8) (pa_cons (pv 4) pa_nil))) (pv 7) (nomark _)))))))))))))))))))), ?_⟩
  try dsimp only [cxK, cxK2]
  refine let3 ?_
  intro _ _ _
  refine ⟨_, rfl, a, ns, 0, rfl, S, _, rfl, fun p ds us H1 hp s1 h1 r1 k1 l1 => ?_⟩
  refine ⟨_, rfl, a, ns, 3, rfl, s1.seq S, _, _, rfl, rfl, (by show (0 : Int) < 3; decide), rfl, ?_⟩
  refine ⟨fun σ' H' => ∃ (ds : List KM.D) (us : List V) (far : Bool) (sv : Option V), σ' = [some (.ref a), some (.ref p), some (.bl far), sv, none, none, none, none, none] ∧ H' p = some (.lst us) ∧ Reps H' ds us ∧ (∀ d ∈ ds, d ∈ allK) ∧ ds.length ≤ 10 ∧ Same H H', ?_, ?_⟩
  · refine ⟨_, rfl, _, rfl, ite2 (fun _ => ?_) (fun _ => ⟨ds, us, _, none, rfl, h1, r1, fun d hd => kinds_all (k1 d hd), by omega, s1⟩)⟩
    have j0 := Int.emod_nonneg (cellN ns 3 / 3) (show (10 : Int) ≠ 0 by decide)
    have j1 := Int.emod_lt_of_pos (cellN ns 3 / 3) (show (0 : Int) < 10 by decide)
    refine ⟨_, rfl, a, ns, 3, rfl, s1.seq S, _, _, rfl, rfl, ⟨by decide, by decide⟩, _, _, rfl, rfl, (by show (0 : Int) < 10; decide), _, _, rfl, rfl, (by show 2 ≤ sizeLine; decide), fun p2 hp2 => ?_⟩
    have t2 := same_new hp2 (.tup [V.str "var", V.int (90 + cellN ns 3 / 3 % 10)])
    obtain ⟨j, hj⟩ : ∃ j : Nat, cellN ns 3 / 3 % 10 = (j : Nat) := ⟨(cellN ns 3 / 3 % 10).toNat, by omega⟩
    have r2 : Rep (upd H1 p2 (.tup [V.str "var", V.int (90 + cellN ns 3 / 3 % 10)])) (.tup [.str "var", .int (90 + (j : Nat))]) (.ref p2) := ⟨p2, _, rfl, upd_same, _, _, rfl, ⟨rfl, by decide +kernel⟩, _, _, rfl, by rw [hj]; rfl, rfl⟩
    have h2 := t2 _ _ h1
    have r12 := r1.mono t2
    have s2 := s1.trans t2
    generalize upd H1 p2 (.tup [V.str "var", V.int (90 + cellN ns 3 / 3 % 10)]) = H2 at r2 h2 r12 s2 ⊢
    refine ⟨_, rfl, .inl ⟨rfl, _, SqL.of h2⟩, (mk_tup (mks_cons mk_str (mks_cons nat_mk (mks_cons (mk_var rfl r2) (mks_cons (mk_tup (mks_cons mk_str (mks_cons nat_mk (mks_cons (mk_var rfl r2) mks_nil))) (by show 3 ≤ sizeLine; decide)) mks_nil)))) (by show 4 ≤ sizeLine; decide)) H2 (Same.refl _) _ (fun v3 H3 s3 r3 => ⟨p, us, v3, rfl, rfl, s3 _ _ h2, ?_, ?_⟩)⟩
    · rw [r1.length, sizeLine_eq]; omega
    · refine ⟨ds ++ [farK j], us ++ [v3], _, _, rfl, upd_same, ((r12.mono s3).updL (s3 _ _ h2)).append (Reps.one (r3.updL (s3 _ _ h2))), fun d hd => ?_, by rw [List.length_append, List.length_singleton]; omega, fun b o hb => ?_⟩
      · rcases List.mem_append.mp hd with hd | hd
        · exact kinds_all (k1 d hd)
        · rw [List.mem_singleton.mp hd]
          exact List.mem_append_right _ (List.mem_map.mpr ⟨j, List.mem_range.mpr (by omega), rfl⟩)
      · rw [upd_ne (ne_of_none hb hp)]
        exact s3 _ _ (s2 _ _ hb)
  clear h1 r1 k1 l1 s1 H1 us ds
  rintro σ' H1 ⟨ds, us, far, sv, rfl, h1, r1, k1, l1, s1⟩
  have lu := r1.length
  have npa : ∀ {H' : Hp}, Same H1 H' → H' p = some (.lst us) := fun s => s _ _ h1
  have refs : ∀ z ∈ us, ∃ a, z = V.ref a := fun z hz => by
    obtain ⟨j, hj⟩ := List.mem_iff_getElem?.mp hz
    obtain ⟨d, hd, rd⟩ := r1.get' hj
    exact all_ref (k1 d (List.mem_of_getElem? hd)) rd
  have ctx : ∀ {H' : Hp}, Same H1 H' → Ctx H' T 60 ds us := fun s => ⟨r1.mono s, fun d hd => (all_rz (k1 d hd)).1, by omega, hT.mono (s1.trans s)⟩
  -- number
  refine ⟨fun σ' H' => ∃ k : Nat, σ' = [some (.ref a), some (.ref p), some (.bl far), sv, some (.int (k : Nat)), none, none, none, none] ∧ k < ds.length + 2 ∧ H' = H1, ?_, ?_⟩
  · have hpos : (0 : Int) < ((us.length : Nat) : Int) + 2 := by omega
    have n0 := Int.emod_nonneg (cellN ns 1) (show ((us.length : Nat) : Int) + 2 ≠ 0 by omega)
    have n1 := Int.emod_lt_of_pos (cellN ns 1) hpos
    refine ⟨_, rfl, a, ns, 1, rfl, s1.seq S, _, rfl, p, us, rfl, .inl (SqL.of h1), _, _, rfl, rfl, _, _, rfl, rfl, hpos, (cellN ns 1 % (((us.length : Nat) : Int) + 2)).toNat, ?_, by omega, rfl⟩
    rw [Int.toNat_of_nonneg n0]
    rfl
  rintro σ' H1' ⟨k, rfl, hk, rfl⟩
  -- handed
  refine ⟨fun σ' H' => ∃ ph : Addr, σ' = [some (.ref a), some (.ref p), some (.bl far), sv, some (.int (k : Nat)), some (.ref ph), none, none, none] ∧ (H' ph = some (.lst us) ∨ H' ph = some (.tup us)) ∧ Same H1' H', ?_, ?_⟩
  · refine ⟨_, rfl, p, us, rfl, .inl (SqL.of h1), fun pa hpa => ?_⟩
    have t2 := same_new hpa (.lst us)
    refine ⟨_, rfl, p, us, rfl, .inl ⟨SqL.of (t2 _ _ h1), fun pb hpb => ⟨(by show 2 ≤ sizeLine; decide), fun pc hpc => ?_⟩⟩⟩
    have t3 := same_new hpb (.tup us)
    have t4 := same_new hpc (.lst [V.ref pa, .ref pb])
    obtain ⟨v1, hv1, hm⟩ := atI_mod (xs := [V.ref pa, .ref pb]) (m := 2) (cellN ns 2) (by simp) (by decide)
    have s4 := t2.trans (t3.trans t4)
    refine ⟨_, rfl, a, ns, 2, rfl, (s1.trans s4).seq S, _, _, rfl, rfl, (by show (0 : Int) < 2; decide), pc, _, _, _, rfl, rfl, SqL.of upd_same, hv1, ?_⟩
    simp only [List.mem_cons, List.not_mem_nil, or_false] at hm
    rcases hm with rfl | rfl
    · exact ⟨pa, rfl, .inl (t4 _ _ (t3 _ _ upd_same)), s4⟩
    · exact ⟨pb, rfl, .inr (t4 _ _ upd_same), s4⟩
  rintro σ' H2 ⟨ph, rfl, hh2, s2⟩
  have sq : ∀ {H' : Hp}, Same H2 H' → Sq K H' ph us := fun s => by
    rcases hh2 with h | h
    · exact .inl (SqL.of (s _ _ h))
    · exact .inr (SqT.of (s _ _ h))
  -- got
  refine ⟨fun σ' H' => ∃ gv : V, σ' = [some (.ref a), some (.ref p), some (.bl far), sv, some (.int (k : Nat)), some (.ref ph), some gv, none, none] ∧ Rep H' (ansD 60 ds k) gv ∧ Same H2 H', ?_, ?_⟩
  · exact ⟨_, rfl, _, rfl, ph, us, ds, k, rfl, sq (Same.refl _), ctx s2, fun v H' s' r' => ⟨v, rfl, r', s'⟩⟩
  rintro σ' H3 ⟨gv, rfl, rg, s3⟩
  refine ⟨_, rfl, ph, us, rfl, sq s3, fun pl hpl => ?_⟩
  have t4 := same_new hpl (.lst us)
  have s24 := s3.trans t4
  have s14 := s2.trans s24
  refine ⟨_, rfl, pl, p, us, us, rfl, rfl, SqL.of upd_same, SqL.of (s14 _ _ h1), refs, .inl ⟨rfl, _, rfl, iteF ?_⟩⟩
  have rg4 := rg.mono t4
  generalize upd H3 pl (.lst us) = H4 at s24 s14 rg4 ⊢
  -- due
  refine ⟨fun σ' H' => ∃ dv : V, σ' = [some (.ref a), some (.ref p), some (.bl far), sv, some (.int (k : Nat)), some (.ref ph), some gv, some dv, none] ∧ Rep H' (ansD 60 ds k) dv ∧ Same H4 H', ?_, ?_⟩
  · refine ⟨_, rfl, _, rfl, p, us, rfl, .inl (SqL.of (s14 _ _ h1)), _, _, rfl, rfl, _, rfl, ite2 (fun c => ?_) (fun c => ?_)⟩
    · have c : ((k : Nat) : Int) < ((us.length : Nat) : Int) := of_decide_eq_true c
      obtain ⟨v, hv⟩ : ∃ v, us[k]? = some v := ⟨_, List.getElem?_eq_getElem (by omega)⟩
      obtain ⟨d, hd, rd⟩ := (r1.mono s14).get' hv
      refine ⟨_, rfl, _, rfl, p, _, _, v, rfl, rfl, SqL.of (s14 _ _ h1), atI_nat hv, _, rfl, _, _, rfl, rfl, d, v, _, rfl, ⟨rd, (all_rz (k1 d (List.mem_of_getElem? hd))).1, by omega, by decide, hT.mono (s1.trans s14)⟩, fun u H' s' r' => ⟨u, rfl, ?_, s'⟩⟩
      unfold ansD
      rw [hd]
      exact r'
    · have c : ¬ ((k : Nat) : Int) < ((us.length : Nat) : Int) := fun z => c (decide_eq_true z)
      refine ⟨_, rfl, ?_, Same.refl _⟩
      unfold ansD
      rw [List.getElem?_eq_none (by omega)]
      exact ⟨rfl, by decide +kernel⟩
  rintro σ' H5 ⟨dv, rfl, rd5, s5⟩
  have ao := ans_ok k1 k (by omega)
  refine ⟨_, rfl, _, rfl, _, _, true, rg4.mono s5, rd5, ao.2, ao.2, ao.1, ao.1, ⟨fun _ => rfl, fun _ => rfl⟩, _, rfl, iteF ?_⟩
  -- further
  have s25 := s24.trans s5
  have s15 := s14.trans s5
  refine ⟨_, rfl, ph, us, rfl, sq s25, fun pf hpf => ?_⟩
  have t6 := same_new hpf (.lst us)
  have h6 : (upd H5 pf (.lst us)) pf = some (.lst us) := upd_same
  have s16 := s15.trans t6
  generalize upd H5 pf (.lst us) = H6 at s16 h6 ⊢
  refine ⟨_, rfl, _, rfl, pf, us, ds, k, rfl, .inl (SqL.of h6), ctx s16, fun v7 H7 s7 _ => ?_⟩
  have h7 := s7 _ _ h6
  have s17 := s16.trans s7
  refine ⟨_, rfl, .inl ⟨rfl, _, SqL.of h7⟩, (mks_cons mk_int (mks_cons (mk_tup (mks_cons mk_str (mks_cons nat_mk (mks_cons (mk_tup (mks_cons mk_str mks_nil)) mks_nil)))) mks_nil)) H7 (Same.refl _) _ (fun vs H8 s8 r8 => ?_)⟩
  obtain ⟨v0, _, rfl, r0, v8, _, rfl, r8, e8⟩ := r8
  cases e8
  cases (show v0 = V.int 0 from r0)
  refine ⟨pf, us, v8, rfl, rfl, s8 _ _ h7, ?_, ?_⟩
  · rw [lu, sizeLine_eq]; omega
  have h8 := s8 _ _ h7
  have s18 := s17.trans s8
  have r9 : Reps (upd H8 pf (.lst (v8 :: us))) (nonK :: ds) (v8 :: us) := ⟨v8, us, rfl, r8.updL h8, (r1.mono s18).updL h8⟩
  have k9 : ∀ d ∈ nonK :: ds, d ∈ allK := fun d hd => by
    rcases List.mem_cons.mp hd with rfl | hd
    · exact List.mem_append_left _ (by simp)
    · exact k1 d hd
  have T9 : TabOk (upd H8 pf (.lst (v8 :: us))) T tabQ tabP := by
    have T8 : TabOk H8 T tabQ tabP := hT.mono (s1.trans s18)
    have ne : T ≠ pf := fun e => by
      unfold TabOk at T8
      rw [e, h8] at T8
      cases T8
    unfold TabOk
    rw [upd_ne ne]
    exact T8
  have h9 : (upd H8 pf (.lst (v8 :: us))) pf = some (.lst (v8 :: us)) := upd_same
  generalize upd H8 pf (.lst (v8 :: us)) = H9 at r9 T9 h9 ⊢
  have c9 : ∀ {H' : Hp}, Same H9 H' → Ctx H' T 60 (nonK :: ds) (v8 :: us) := fun s => ⟨r9.mono s, fun d hd => (all_rz (k9 d hd)).1, by rw [List.length_cons]; omega, T9.mono s⟩
  refine ⟨_, rfl, (by show 1 ≤ sizeLine; decide), fun pn hpn => ⟨(by show 1 ≤ sizeLine; decide), fun pg hpg => ?_⟩⟩
  have sa := same_new hpn (.tup [V.str "nat"])
  have ra : Rep (upd H9 pn (.tup [V.str "nat"])) natK (.ref pn) := ⟨pn, _, rfl, upd_same, _, _, rfl, ⟨rfl, by decide +kernel⟩, rfl⟩
  generalize upd H9 pn (.tup [V.str "nat"]) = Ha at sa ra hpg ⊢
  have tb := same_new hpg (.lst [V.ref pn])
  have sb := sa.trans tb
  refine ⟨pf, pg, _, _, rfl, rfl, sb _ _ h9, upd_same, ?_, fun pi hpi => ?_⟩
  · rw [List.length_cons, List.length_singleton, lu, sizeLine_eq]; omega
  have tc := same_new hpi (.lst ((v8 :: us) ++ [V.ref pn]))
  have rc : Reps (upd (upd Ha pg (.lst [V.ref pn])) pi (.lst ((v8 :: us) ++ [V.ref pn]))) ((nonK :: ds) ++ [natK]) ((v8 :: us) ++ [V.ref pn]) := (r9.mono (sb.trans tc)).append (Reps.one (ra.mono (tb.trans tc)))
  have hi : (upd (upd Ha pg (.lst [V.ref pn])) pi (.lst ((v8 :: us) ++ [V.ref pn]))) pi = some (.lst ((v8 :: us) ++ [V.ref pn])) := upd_same
  have sc := sb.trans tc
  generalize upd (upd Ha pg (.lst [V.ref pn])) pi (.lst ((v8 :: us) ++ [V.ref pn])) = Hc at rc hi sc ⊢
  obtain ⟨vk, hvk⟩ : ∃ v, ((v8 :: us) ++ [V.ref pn])[k]? = some v := ⟨_, List.getElem?_eq_getElem (by rw [List.length_append, List.length_cons, List.length_singleton]; omega)⟩
  obtain ⟨dk, hdk, rdk⟩ := rc.get' hvk
  have kdk : dk ∈ allK := by
    rcases List.mem_append.mp (List.mem_of_getElem? hdk) with h | h
    · exact k9 dk h
    · rw [List.mem_singleton.mp h]
      exact List.mem_append_left _ (by simp)
  refine ⟨_, rfl, pi, _, _, vk, rfl, rfl, SqL.of hi, atI_nat hvk, _, rfl, _, _, rfl, rfl, dk, vk, _, rfl, ⟨rdk, (all_rz kdk).1, by omega, by decide, T9.mono sc⟩, fun ud Hd sd rd => ?_⟩
  have s9d := sc.trans sd
  refine ⟨_, rfl, _, rfl, pf, _, rfl, .inl (SqL.of (s9d _ _ h9)), _, _, rfl, rfl, ?_⟩
  refine ⟨_, rfl, ite2 (fun _ => q Hd) (fun c => ?_)⟩
  have c : ¬ (((v8 :: us).length : Nat) : Int) ≤ ((k : Nat) : Int) := fun z => c (decide_eq_true z)
  have hkl : k < (nonK :: ds).length := by
    rw [List.length_cons] at c ⊢
    omega
  have ek : ansD 60 (nonK :: ds) k = gotD 60 ((k : Int) + 1) dk := by
    unfold ansD
    rw [List.getElem?_append_left hkl] at hdk
    rw [hdk]
  have ao := ans_ok k9 k (by omega)
  refine ⟨_, rfl, _, rfl, pf, _, nonK :: ds, k, rfl, .inl (SqL.of (s9d _ _ h9)), c9 s9d, fun ve He se re => ⟨_, rfl, _, _, true, re, (?_ : Rep He (ansD 60 (nonK :: ds) k) ud), ao.2, ao.2, ao.1, ao.1, ⟨fun _ => rfl, fun _ => rfl⟩, q He⟩⟩
  rw [ek]
  exact rd.mono se
end K40
end
section
set_option maxHeartbeats 4000000
namespace K40
open PySem L2 L3 KM
structure Txt (K : PySem.W.Frag) (mg : Str → Option Value) (t : Adr) : Prop where
  M : Mg mg t
  D_is_number : Df K mg "is_number" s_is_number ["value"]
  D_is_vast : Df K mg "is_vast" s_is_vast ["value"]
  D_kids_of : Df K mg "kids_of" s_kids_of ["thing"]
  D_binds_of : Df K mg "binds_of" s_binds_of ["thing"]
  D_top_variable : Df K mg "top_variable" s_top_variable ["thing"]
  D_bounded : Df K mg "bounded" s_bounded ["thing"]
  D_rebuilt : Df K mg "rebuilt" s_rebuilt ["thing", "kids"]
  D_with_free : Df K mg "with_free" s_with_free ["thing", "binders", "change"]
  D_raised : Df K mg "raised" s_raised ["thing", "by", "low"]
  D_lifted : Df K mg "lifted" s_lifted ["thing", "by", "low"]
  D_kind_at : Df K mg "kind_at" s_kind_at ["context", "number"]
  D_law_cell_at : Df K mg "_law_cell_at" s_law_cell_at ["_law_script", "_law_k"]
  D_law_context : Df K mg "_law_context" s_law_context ["_law_cell"]
  D_law_word_of : Df K mg "_law_word_of" s_law_word_of ["_law_e"]
  D_law_answer : Df K mg "_law_answer" s_law_answer ["_law_context_here", "_law_number"]
  D_law_lifted : Df K mg "_law_lifted" s_law_lifted ["_law_kind", "_law_by"]
  D_law : Df K mg "law" s_law ["_law_script"]
  T_KIDS_DUE : ∃ as, KD K t.KIDS_DUE [("nat", []), ("none", []), ("all", [.str "kind", .str "kind"]), ("some", [.str "kind", .str "kind"]), ("same", [.str "kind", .str "term", .str "term"]), ("var", []), ("fun", [.str "kind", .str "term"]), ("app", [.str "term", .str "term"]), ("zero", []), ("next", [.str "term"]), ("rec", [.str "kind", .str "term", .str "term", .str "term"]), ("like", [.str "kind", .str "term"]), ("carry", [.str "kind", .str "term", .str "term"]), ("never", [.str "kind", .str "term"]), ("pair", [.str "kind", .str "term", .str "term"]), ("first", [.str "term"]), ("second", [.str "term"]), ("name", [])] as
  T_BINDER_OVER : TabK K t.BINDER_OVER [("all", .int 1), ("some", .int 1), ("fun", .int 1), ("rec", .int 0), ("carry", .int 0)]
  X : Ek K t
theorem txt_mk {K : PySem.W.Frag} {h : Heap} {mg : Str → Option Value} (X : K.In h) (G : h.Ns mainGlobals mg)
    {f0 : Addr} {od0 an0 : Option Addr} {sl0 : Array (Option Value)} {oc0 kV0 dc0 pm0 cd0 ct0 : Value}
    {f1 : Addr} {od1 an1 : Option Addr} {sl1 : Array (Option Value)} {oc1 kV1 dc1 pm1 cd1 ct1 : Value}
    {f2 : Addr} {od2 an2 : Option Addr} {sl2 : Array (Option Value)} {oc2 kV2 dc2 pm2 cd2 ct2 : Value}
    {f3 : Addr} {od3 an3 : Option Addr} {sl3 : Array (Option Value)} {oc3 kV3 dc3 pm3 cd3 ct3 : Value}
    {f4 : Addr} {od4 an4 : Option Addr} {sl4 : Array (Option Value)} {oc4 kV4 dc4 pm4 cd4 ct4 : Value}
    {f5 : Addr} {od5 an5 : Option Addr} {sl5 : Array (Option Value)} {oc5 kV5 dc5 pm5 cd5 ct5 : Value}
    {f6 : Addr} {od6 an6 : Option Addr} {sl6 : Array (Option Value)} {oc6 kV6 dc6 pm6 cd6 ct6 : Value}
    {f7 : Addr} {od7 an7 : Option Addr} {sl7 : Array (Option Value)} {oc7 kV7 dc7 pm7 cd7 ct7 : Value}
    {f8 : Addr} {od8 an8 : Option Addr} {sl8 : Array (Option Value)} {oc8 kV8 dc8 pm8 cd8 ct8 : Value}
    {f9 : Addr} {od9 an9 : Option Addr} {sl9 : Array (Option Value)} {oc9 kV9 dc9 pm9 cd9 ct9 : Value}
    {f10 : Addr} {od10 an10 : Option Addr} {sl10 : Array (Option Value)} {oc10 kV10 dc10 pm10 cd10 ct10 : Value}
    {f11 : Addr} {od11 an11 : Option Addr} {sl11 : Array (Option Value)} {oc11 kV11 dc11 pm11 cd11 ct11 : Value}
    {f12 : Addr} {od12 an12 : Option Addr} {sl12 : Array (Option Value)} {oc12 kV12 dc12 pm12 cd12 ct12 : Value}
    {f13 : Addr} {od13 an13 : Option Addr} {sl13 : Array (Option Value)} {oc13 kV13 dc13 pm13 cd13 ct13 : Value}
    {f14 : Addr} {od14 an14 : Option Addr} {sl14 : Array (Option Value)} {oc14 kV14 dc14 pm14 cd14 ct14 : Value}
    {f15 : Addr} {od15 an15 : Option Addr} {sl15 : Array (Option Value)} {oc15 kV15 dc15 pm15 cd15 ct15 : Value}
    {f16 : Addr} {od16 an16 : Option Addr} {sl16 : Array (Option Value)} {oc16 kV16 dc16 pm16 cd16 ct16 : Value}
    {tk_MOST_KNOTS : Tok}
    {tk_MOST_DEEP : Tok}
    {tk_MOST_VARIABLE : Tok}
    {t_KIDS_DUE : Addr}
    {es_KIDS_DUE : Array DictEntry} {ep_KIDS_DUE : Nat}
    {b0_KIDS_DUE b1_KIDS_DUE b2_KIDS_DUE b3_KIDS_DUE b4_KIDS_DUE b5_KIDS_DUE b6_KIDS_DUE b7_KIDS_DUE b8_KIDS_DUE b9_KIDS_DUE b10_KIDS_DUE b11_KIDS_DUE b12_KIDS_DUE b13_KIDS_DUE b14_KIDS_DUE b15_KIDS_DUE b16_KIDS_DUE b17_KIDS_DUE : Addr}
    {d17_KIDS_DUE : Option Addr} {i17_KIDS_DUE : Array Value} {n17_KIDS_DUE : Nat} {s17_KIDS_DUE : Array (Option Value)}
    {d16_KIDS_DUE : Option Addr} {i16_KIDS_DUE : Array Value} {n16_KIDS_DUE : Nat} {s16_KIDS_DUE : Array (Option Value)}
    {d15_KIDS_DUE : Option Addr} {i15_KIDS_DUE : Array Value} {n15_KIDS_DUE : Nat} {s15_KIDS_DUE : Array (Option Value)}
    {d14_KIDS_DUE : Option Addr} {i14_KIDS_DUE : Array Value} {n14_KIDS_DUE : Nat} {s14_KIDS_DUE : Array (Option Value)}
    {d13_KIDS_DUE : Option Addr} {i13_KIDS_DUE : Array Value} {n13_KIDS_DUE : Nat} {s13_KIDS_DUE : Array (Option Value)}
    {d12_KIDS_DUE : Option Addr} {i12_KIDS_DUE : Array Value} {n12_KIDS_DUE : Nat} {s12_KIDS_DUE : Array (Option Value)}
    {d11_KIDS_DUE : Option Addr} {i11_KIDS_DUE : Array Value} {n11_KIDS_DUE : Nat} {s11_KIDS_DUE : Array (Option Value)}
    {d10_KIDS_DUE : Option Addr} {i10_KIDS_DUE : Array Value} {n10_KIDS_DUE : Nat} {s10_KIDS_DUE : Array (Option Value)}
    {d9_KIDS_DUE : Option Addr} {i9_KIDS_DUE : Array Value} {n9_KIDS_DUE : Nat} {s9_KIDS_DUE : Array (Option Value)}
    {d8_KIDS_DUE : Option Addr} {i8_KIDS_DUE : Array Value} {n8_KIDS_DUE : Nat} {s8_KIDS_DUE : Array (Option Value)}
    {d7_KIDS_DUE : Option Addr} {i7_KIDS_DUE : Array Value} {n7_KIDS_DUE : Nat} {s7_KIDS_DUE : Array (Option Value)}
    {d6_KIDS_DUE : Option Addr} {i6_KIDS_DUE : Array Value} {n6_KIDS_DUE : Nat} {s6_KIDS_DUE : Array (Option Value)}
    {d5_KIDS_DUE : Option Addr} {i5_KIDS_DUE : Array Value} {n5_KIDS_DUE : Nat} {s5_KIDS_DUE : Array (Option Value)}
    {d4_KIDS_DUE : Option Addr} {i4_KIDS_DUE : Array Value} {n4_KIDS_DUE : Nat} {s4_KIDS_DUE : Array (Option Value)}
    {d3_KIDS_DUE : Option Addr} {i3_KIDS_DUE : Array Value} {n3_KIDS_DUE : Nat} {s3_KIDS_DUE : Array (Option Value)}
    {d2_KIDS_DUE : Option Addr} {i2_KIDS_DUE : Array Value} {n2_KIDS_DUE : Nat} {s2_KIDS_DUE : Array (Option Value)}
    {d1_KIDS_DUE : Option Addr} {i1_KIDS_DUE : Array Value} {n1_KIDS_DUE : Nat} {s1_KIDS_DUE : Array (Option Value)}
    {d0_KIDS_DUE : Option Addr} {i0_KIDS_DUE : Array Value} {n0_KIDS_DUE : Nat} {s0_KIDS_DUE : Array (Option Value)}
    {t_BINDER_OVER : Addr}
    {es_BINDER_OVER : Array DictEntry} {ep_BINDER_OVER : Nat}
    {t_KeeperError : Addr}
    {t_Great : Addr}
    {t_NoPlace : Addr}
    {t_NoStep : Addr}
    {t_Dry : Addr}
    {t_NoVariable : Addr}
    {t_NoName : Addr}
    {t_NotAll : Addr}
    {t_NotSome : Addr}
    {t_NotSame : Addr}
    {t_Unlike : Addr}
    {t_NoText : Addr}
    {t_NoWord : Addr}
    {t_TwiceTold : Addr}
    {t_NotClosed : Addr}
    (a0 : PySem.W.nsIn K mainGlobals "is_number" = some (some (.ref f0)))
    (l0 : K.lookup f0 = some ⟨oc0, od0, .func (PySem.W.fnOf "is_number" "is_number" (defArgs s_is_number) (defBody s_is_number) (defScope s_is_number) .none kV0 dc0 pm0 an0 cd0 ct0), sl0⟩)
    (c0 : PySem.W.codeIn K cd0 "is_number" = true)
    (k0 : PySem.W.keepIn K (.ref f0) = true)
    (a1 : PySem.W.nsIn K mainGlobals "is_vast" = some (some (.ref f1)))
    (l1 : K.lookup f1 = some ⟨oc1, od1, .func (PySem.W.fnOf "is_vast" "is_vast" (defArgs s_is_vast) (defBody s_is_vast) (defScope s_is_vast) .none kV1 dc1 pm1 an1 cd1 ct1), sl1⟩)
    (c1 : PySem.W.codeIn K cd1 "is_vast" = true)
    (k1 : PySem.W.keepIn K (.ref f1) = true)
    (a2 : PySem.W.nsIn K mainGlobals "kids_of" = some (some (.ref f2)))
    (l2 : K.lookup f2 = some ⟨oc2, od2, .func (PySem.W.fnOf "kids_of" "kids_of" (defArgs s_kids_of) (defBody s_kids_of) (defScope s_kids_of) .none kV2 dc2 pm2 an2 cd2 ct2), sl2⟩)
    (c2 : PySem.W.codeIn K cd2 "kids_of" = true)
    (k2 : PySem.W.keepIn K (.ref f2) = true)
    (a3 : PySem.W.nsIn K mainGlobals "binds_of" = some (some (.ref f3)))
    (l3 : K.lookup f3 = some ⟨oc3, od3, .func (PySem.W.fnOf "binds_of" "binds_of" (defArgs s_binds_of) (defBody s_binds_of) (defScope s_binds_of) .none kV3 dc3 pm3 an3 cd3 ct3), sl3⟩)
    (c3 : PySem.W.codeIn K cd3 "binds_of" = true)
    (k3 : PySem.W.keepIn K (.ref f3) = true)
    (a4 : PySem.W.nsIn K mainGlobals "top_variable" = some (some (.ref f4)))
    (l4 : K.lookup f4 = some ⟨oc4, od4, .func (PySem.W.fnOf "top_variable" "top_variable" (defArgs s_top_variable) (defBody s_top_variable) (defScope s_top_variable) .none kV4 dc4 pm4 an4 cd4 ct4), sl4⟩)
    (c4 : PySem.W.codeIn K cd4 "top_variable" = true)
    (k4 : PySem.W.keepIn K (.ref f4) = true)
    (a5 : PySem.W.nsIn K mainGlobals "bounded" = some (some (.ref f5)))
    (l5 : K.lookup f5 = some ⟨oc5, od5, .func (PySem.W.fnOf "bounded" "bounded" (defArgs s_bounded) (defBody s_bounded) (defScope s_bounded) .none kV5 dc5 pm5 an5 cd5 ct5), sl5⟩)
    (c5 : PySem.W.codeIn K cd5 "bounded" = true)
    (k5 : PySem.W.keepIn K (.ref f5) = true)
    (a6 : PySem.W.nsIn K mainGlobals "rebuilt" = some (some (.ref f6)))
    (l6 : K.lookup f6 = some ⟨oc6, od6, .func (PySem.W.fnOf "rebuilt" "rebuilt" (defArgs s_rebuilt) (defBody s_rebuilt) (defScope s_rebuilt) .none kV6 dc6 pm6 an6 cd6 ct6), sl6⟩)
    (c6 : PySem.W.codeIn K cd6 "rebuilt" = true)
    (k6 : PySem.W.keepIn K (.ref f6) = true)
    (a7 : PySem.W.nsIn K mainGlobals "with_free" = some (some (.ref f7)))
    (l7 : K.lookup f7 = some ⟨oc7, od7, .func (PySem.W.fnOf "with_free" "with_free" (defArgs s_with_free) (defBody s_with_free) (defScope s_with_free) .none kV7 dc7 pm7 an7 cd7 ct7), sl7⟩)
    (c7 : PySem.W.codeIn K cd7 "with_free" = true)
    (k7 : PySem.W.keepIn K (.ref f7) = true)
    (a8 : PySem.W.nsIn K mainGlobals "raised" = some (some (.ref f8)))
    (l8 : K.lookup f8 = some ⟨oc8, od8, .func (PySem.W.fnOf "raised" "raised" (defArgs s_raised) (defBody s_raised) (defScope s_raised) .none kV8 dc8 pm8 an8 cd8 ct8), sl8⟩)
    (c8 : PySem.W.codeIn K cd8 "raised" = true)
    (k8 : PySem.W.keepIn K (.ref f8) = true)
    (a9 : PySem.W.nsIn K mainGlobals "lifted" = some (some (.ref f9)))
    (l9 : K.lookup f9 = some ⟨oc9, od9, .func (PySem.W.fnOf "lifted" "lifted" (defArgs s_lifted) (defBody s_lifted) (defScope s_lifted) .none kV9 dc9 pm9 an9 cd9 ct9), sl9⟩)
    (c9 : PySem.W.codeIn K cd9 "lifted" = true)
    (k9 : PySem.W.keepIn K (.ref f9) = true)
    (a10 : PySem.W.nsIn K mainGlobals "kind_at" = some (some (.ref f10)))
    (l10 : K.lookup f10 = some ⟨oc10, od10, .func (PySem.W.fnOf "kind_at" "kind_at" (defArgs s_kind_at) (defBody s_kind_at) (defScope s_kind_at) .none kV10 dc10 pm10 an10 cd10 ct10), sl10⟩)
    (c10 : PySem.W.codeIn K cd10 "kind_at" = true)
    (k10 : PySem.W.keepIn K (.ref f10) = true)
    (a11 : PySem.W.nsIn K mainGlobals "_law_cell_at" = some (some (.ref f11)))
    (l11 : K.lookup f11 = some ⟨oc11, od11, .func (PySem.W.fnOf "_law_cell_at" "_law_cell_at" (defArgs s_law_cell_at) (defBody s_law_cell_at) (defScope s_law_cell_at) .none kV11 dc11 pm11 an11 cd11 ct11), sl11⟩)
    (c11 : PySem.W.codeIn K cd11 "_law_cell_at" = true)
    (k11 : PySem.W.keepIn K (.ref f11) = true)
    (a12 : PySem.W.nsIn K mainGlobals "_law_context" = some (some (.ref f12)))
    (l12 : K.lookup f12 = some ⟨oc12, od12, .func (PySem.W.fnOf "_law_context" "_law_context" (defArgs s_law_context) (defBody s_law_context) (defScope s_law_context) .none kV12 dc12 pm12 an12 cd12 ct12), sl12⟩)
    (c12 : PySem.W.codeIn K cd12 "_law_context" = true)
    (k12 : PySem.W.keepIn K (.ref f12) = true)
    (a13 : PySem.W.nsIn K mainGlobals "_law_word_of" = some (some (.ref f13)))
    (l13 : K.lookup f13 = some ⟨oc13, od13, .func (PySem.W.fnOf "_law_word_of" "_law_word_of" (defArgs s_law_word_of) (defBody s_law_word_of) (defScope s_law_word_of) .none kV13 dc13 pm13 an13 cd13 ct13), sl13⟩)
    (c13 : PySem.W.codeIn K cd13 "_law_word_of" = true)
    (k13 : PySem.W.keepIn K (.ref f13) = true)
    (a14 : PySem.W.nsIn K mainGlobals "_law_answer" = some (some (.ref f14)))
    (l14 : K.lookup f14 = some ⟨oc14, od14, .func (PySem.W.fnOf "_law_answer" "_law_answer" (defArgs s_law_answer) (defBody s_law_answer) (defScope s_law_answer) .none kV14 dc14 pm14 an14 cd14 ct14), sl14⟩)
    (c14 : PySem.W.codeIn K cd14 "_law_answer" = true)
    (k14 : PySem.W.keepIn K (.ref f14) = true)
    (a15 : PySem.W.nsIn K mainGlobals "_law_lifted" = some (some (.ref f15)))
    (l15 : K.lookup f15 = some ⟨oc15, od15, .func (PySem.W.fnOf "_law_lifted" "_law_lifted" (defArgs s_law_lifted) (defBody s_law_lifted) (defScope s_law_lifted) .none kV15 dc15 pm15 an15 cd15 ct15), sl15⟩)
    (c15 : PySem.W.codeIn K cd15 "_law_lifted" = true)
    (k15 : PySem.W.keepIn K (.ref f15) = true)
    (a16 : PySem.W.nsIn K mainGlobals "law" = some (some (.ref f16)))
    (l16 : K.lookup f16 = some ⟨oc16, od16, .func (PySem.W.fnOf "law" "law" (defArgs s_law) (defBody s_law) (defScope s_law) .none kV16 dc16 pm16 an16 cd16 ct16), sl16⟩)
    (c16 : PySem.W.codeIn K cd16 "law" = true)
    (k16 : PySem.W.keepIn K (.ref f16) = true)
    (z_ValueError : PySem.W.nsIn K mainGlobals "ValueError" = some none)
    (z_bool : PySem.W.nsIn K mainGlobals "bool" = some none)
    (z_int : PySem.W.nsIn K mainGlobals "int" = some none)
    (z_isinstance : PySem.W.nsIn K mainGlobals "isinstance" = some none)
    (z_len : PySem.W.nsIn K mainGlobals "len" = some none)
    (z_list : PySem.W.nsIn K mainGlobals "list" = some none)
    (z_max : PySem.W.nsIn K mainGlobals "max" = some none)
    (z_range : PySem.W.nsIn K mainGlobals "range" = some none)
    (z_tuple : PySem.W.nsIn K mainGlobals "tuple" = some none)
    (z_zip : PySem.W.nsIn K mainGlobals "zip" = some none)
    (g_MOST_KNOTS : PySem.W.nsIn K mainGlobals "MOST_KNOTS" = some (some (.int 600 tk_MOST_KNOTS)))
    (g_MOST_DEEP : PySem.W.nsIn K mainGlobals "MOST_DEEP" = some (some (.int 40 tk_MOST_DEEP)))
    (g_MOST_VARIABLE : PySem.W.nsIn K mainGlobals "MOST_VARIABLE" = some (some (.int 99 tk_MOST_VARIABLE)))
    (g_KIDS_DUE : PySem.W.nsIn K mainGlobals "KIDS_DUE" = some (some (.ref t_KIDS_DUE)))
    (lk_KIDS_DUE : K.lookup t_KIDS_DUE = some ⟨.type "dict", none, .dict es_KIDS_DUE ep_KIDS_DUE, #[]⟩)
    (sy_KIDS_DUE : (t_KIDS_DUE == sysModules) = false)
    (ks_KIDS_DUE : rowsChk es_KIDS_DUE.toList ["nat", "none", "all", "some", "same", "var", "fun", "app", "zero", "next", "rec", "like", "carry", "never", "pair", "first", "second", "name"] = true)
    (rf_KIDS_DUE : refsOf es_KIDS_DUE.toList = [b0_KIDS_DUE, b1_KIDS_DUE, b2_KIDS_DUE, b3_KIDS_DUE, b4_KIDS_DUE, b5_KIDS_DUE, b6_KIDS_DUE, b7_KIDS_DUE, b8_KIDS_DUE, b9_KIDS_DUE, b10_KIDS_DUE, b11_KIDS_DUE, b12_KIDS_DUE, b13_KIDS_DUE, b14_KIDS_DUE, b15_KIDS_DUE, b16_KIDS_DUE, b17_KIDS_DUE])
    (u0_KIDS_DUE : K.lookup b0_KIDS_DUE = some ⟨.type "tuple", d0_KIDS_DUE, .seq i0_KIDS_DUE n0_KIDS_DUE, s0_KIDS_DUE⟩)
    (v0_KIDS_DUE : seqChk [] i0_KIDS_DUE = true)
    (u1_KIDS_DUE : K.lookup b1_KIDS_DUE = some ⟨.type "tuple", d1_KIDS_DUE, .seq i1_KIDS_DUE n1_KIDS_DUE, s1_KIDS_DUE⟩)
    (v1_KIDS_DUE : seqChk [] i1_KIDS_DUE = true)
    (u2_KIDS_DUE : K.lookup b2_KIDS_DUE = some ⟨.type "tuple", d2_KIDS_DUE, .seq i2_KIDS_DUE n2_KIDS_DUE, s2_KIDS_DUE⟩)
    (v2_KIDS_DUE : seqChk [.str "kind", .str "kind"] i2_KIDS_DUE = true)
    (u3_KIDS_DUE : K.lookup b3_KIDS_DUE = some ⟨.type "tuple", d3_KIDS_DUE, .seq i3_KIDS_DUE n3_KIDS_DUE, s3_KIDS_DUE⟩)
    (v3_KIDS_DUE : seqChk [.str "kind", .str "kind"] i3_KIDS_DUE = true)
    (u4_KIDS_DUE : K.lookup b4_KIDS_DUE = some ⟨.type "tuple", d4_KIDS_DUE, .seq i4_KIDS_DUE n4_KIDS_DUE, s4_KIDS_DUE⟩)
    (v4_KIDS_DUE : seqChk [.str "kind", .str "term", .str "term"] i4_KIDS_DUE = true)
    (u5_KIDS_DUE : K.lookup b5_KIDS_DUE = some ⟨.type "tuple", d5_KIDS_DUE, .seq i5_KIDS_DUE n5_KIDS_DUE, s5_KIDS_DUE⟩)
    (v5_KIDS_DUE : seqChk [] i5_KIDS_DUE = true)
    (u6_KIDS_DUE : K.lookup b6_KIDS_DUE = some ⟨.type "tuple", d6_KIDS_DUE, .seq i6_KIDS_DUE n6_KIDS_DUE, s6_KIDS_DUE⟩)
    (v6_KIDS_DUE : seqChk [.str "kind", .str "term"] i6_KIDS_DUE = true)
    (u7_KIDS_DUE : K.lookup b7_KIDS_DUE = some ⟨.type "tuple", d7_KIDS_DUE, .seq i7_KIDS_DUE n7_KIDS_DUE, s7_KIDS_DUE⟩)
    (v7_KIDS_DUE : seqChk [.str "term", .str "term"] i7_KIDS_DUE = true)
    (u8_KIDS_DUE : K.lookup b8_KIDS_DUE = some ⟨.type "tuple", d8_KIDS_DUE, .seq i8_KIDS_DUE n8_KIDS_DUE, s8_KIDS_DUE⟩)
    (v8_KIDS_DUE : seqChk [] i8_KIDS_DUE = true)
    (u9_KIDS_DUE : K.lookup b9_KIDS_DUE = some ⟨.type "tuple", d9_KIDS_DUE, .seq i9_KIDS_DUE n9_KIDS_DUE, s9_KIDS_DUE⟩)
    (v9_KIDS_DUE : seqChk [.str "term"] i9_KIDS_DUE = true)
    (u10_KIDS_DUE : K.lookup b10_KIDS_DUE = some ⟨.type "tuple", d10_KIDS_DUE, .seq i10_KIDS_DUE n10_KIDS_DUE, s10_KIDS_DUE⟩)
    (v10_KIDS_DUE : seqChk [.str "kind", .str "term", .str "term", .str "term"] i10_KIDS_DUE = true)
    (u11_KIDS_DUE : K.lookup b11_KIDS_DUE = some ⟨.type "tuple", d11_KIDS_DUE, .seq i11_KIDS_DUE n11_KIDS_DUE, s11_KIDS_DUE⟩)
    (v11_KIDS_DUE : seqChk [.str "kind", .str "term"] i11_KIDS_DUE = true)
    (u12_KIDS_DUE : K.lookup b12_KIDS_DUE = some ⟨.type "tuple", d12_KIDS_DUE, .seq i12_KIDS_DUE n12_KIDS_DUE, s12_KIDS_DUE⟩)
    (v12_KIDS_DUE : seqChk [.str "kind", .str "term", .str "term"] i12_KIDS_DUE = true)
    (u13_KIDS_DUE : K.lookup b13_KIDS_DUE = some ⟨.type "tuple", d13_KIDS_DUE, .seq i13_KIDS_DUE n13_KIDS_DUE, s13_KIDS_DUE⟩)
    (v13_KIDS_DUE : seqChk [.str "kind", .str "term"] i13_KIDS_DUE = true)
    (u14_KIDS_DUE : K.lookup b14_KIDS_DUE = some ⟨.type "tuple", d14_KIDS_DUE, .seq i14_KIDS_DUE n14_KIDS_DUE, s14_KIDS_DUE⟩)
    (v14_KIDS_DUE : seqChk [.str "kind", .str "term", .str "term"] i14_KIDS_DUE = true)
    (u15_KIDS_DUE : K.lookup b15_KIDS_DUE = some ⟨.type "tuple", d15_KIDS_DUE, .seq i15_KIDS_DUE n15_KIDS_DUE, s15_KIDS_DUE⟩)
    (v15_KIDS_DUE : seqChk [.str "term"] i15_KIDS_DUE = true)
    (u16_KIDS_DUE : K.lookup b16_KIDS_DUE = some ⟨.type "tuple", d16_KIDS_DUE, .seq i16_KIDS_DUE n16_KIDS_DUE, s16_KIDS_DUE⟩)
    (v16_KIDS_DUE : seqChk [.str "term"] i16_KIDS_DUE = true)
    (u17_KIDS_DUE : K.lookup b17_KIDS_DUE = some ⟨.type "tuple", d17_KIDS_DUE, .seq i17_KIDS_DUE n17_KIDS_DUE, s17_KIDS_DUE⟩)
    (v17_KIDS_DUE : seqChk [] i17_KIDS_DUE = true)
    (g_BINDER_OVER : PySem.W.nsIn K mainGlobals "BINDER_OVER" = some (some (.ref t_BINDER_OVER)))
    (lk_BINDER_OVER : K.lookup t_BINDER_OVER = some ⟨.type "dict", none, .dict es_BINDER_OVER ep_BINDER_OVER, #[]⟩)
    (sy_BINDER_OVER : (t_BINDER_OVER == sysModules) = false)
    (vs_BINDER_OVER : intRows es_BINDER_OVER.toList [("all", 1), ("some", 1), ("fun", 1), ("rec", 0), ("carry", 0)] = true)
    (g_KeeperError : PySem.W.nsIn K mainGlobals "KeeperError" = some (some (.ref t_KeeperError)))
    (g_Great : PySem.W.nsIn K mainGlobals "Great" = some (some (.ref t_Great)))
    (g_NoPlace : PySem.W.nsIn K mainGlobals "NoPlace" = some (some (.ref t_NoPlace)))
    (g_NoStep : PySem.W.nsIn K mainGlobals "NoStep" = some (some (.ref t_NoStep)))
    (g_Dry : PySem.W.nsIn K mainGlobals "Dry" = some (some (.ref t_Dry)))
    (g_NoVariable : PySem.W.nsIn K mainGlobals "NoVariable" = some (some (.ref t_NoVariable)))
    (g_NoName : PySem.W.nsIn K mainGlobals "NoName" = some (some (.ref t_NoName)))
    (g_NotAll : PySem.W.nsIn K mainGlobals "NotAll" = some (some (.ref t_NotAll)))
    (g_NotSome : PySem.W.nsIn K mainGlobals "NotSome" = some (some (.ref t_NotSome)))
    (g_NotSame : PySem.W.nsIn K mainGlobals "NotSame" = some (some (.ref t_NotSame)))
    (g_Unlike : PySem.W.nsIn K mainGlobals "Unlike" = some (some (.ref t_Unlike)))
    (g_NoText : PySem.W.nsIn K mainGlobals "NoText" = some (some (.ref t_NoText)))
    (g_NoWord : PySem.W.nsIn K mainGlobals "NoWord" = some (some (.ref t_NoWord)))
    (g_TwiceTold : PySem.W.nsIn K mainGlobals "TwiceTold" = some (some (.ref t_TwiceTold)))
    (g_NotClosed : PySem.W.nsIn K mainGlobals "NotClosed" = some (some (.ref t_NotClosed)))
    (x_gr : PySem.W.excIn K t_Great [.type "ValueError", .type "Exception", .type "BaseException", .type "object"] "ValueError.__new__" = true)
    (x_nv : PySem.W.excIn K t_NoVariable [.type "ValueError", .type "Exception", .type "BaseException", .type "object"] "ValueError.__new__" = true)
    (x_ke : PySem.W.excIn K t_KeeperError [.type "ValueError", .type "Exception", .type "BaseException", .type "object"] "ValueError.__new__" = true)
    (x_cg1 : PySem.W.findIn K (.ref t_Great) "__getattribute__" = some (some (.builtin "BaseException.__getattribute__")))
    (x_cg2 : PySem.W.findIn K (.ref t_Great) "__class__" = some (some (.builtin "object.__class__")))
    (x_cg3 : PySem.W.findIn K (.ref t_Great) "__getattr__" = some none)
    (x_cg4 : PySem.W.mroIn K t_Great (.type "object") = some true)
    (x_cg5 : PySem.W.mroIn K t_Great (.type "BaseException") = some true)
    (x_cg6 : (PySem.W.clsIn K t_Great).isSome = true)
    (x_cn1 : PySem.W.findIn K (.ref t_NoVariable) "__getattribute__" = some (some (.builtin "BaseException.__getattribute__")))
    (x_cn2 : PySem.W.findIn K (.ref t_NoVariable) "__class__" = some (some (.builtin "object.__class__")))
    (x_cn3 : PySem.W.findIn K (.ref t_NoVariable) "__getattr__" = some none)
    (x_cn4 : PySem.W.mroIn K t_NoVariable (.type "object") = some true)
    (x_cn5 : PySem.W.mroIn K t_NoVariable (.type "BaseException") = some true)
    (x_cn6 : (PySem.W.clsIn K t_NoVariable).isSome = true)
    (x_s1 : PySem.W.subIn K (.ref t_NoVariable) (.ref t_KeeperError) = some true)
    (x_s2 : PySem.W.subIn K (.ref t_Great) (.ref t_KeeperError) = some true)
    (x_s3 : PySem.W.subIn K (.ref t_Great) (.ref t_Great) = some true)
    (x_vg : PySem.W.kitOne K (.ref t_Great) (.type "ValueError") = some true)
    (x_vn : PySem.W.kitOne K (.ref t_NoVariable) (.type "ValueError") = some true)
    (x_g0 : PySem.W.kitOne K (.ref t_Great) (.ref t_NoVariable) = some false)
    (x_n0 : PySem.W.kitOne K (.ref t_NoVariable) (.ref t_NoVariable) = some true)
    (x_g1 : PySem.W.kitOne K (.ref t_Great) (.ref t_NoName) = some false)
    (x_n1 : PySem.W.kitOne K (.ref t_NoVariable) (.ref t_NoName) = some false)
    (x_g2 : PySem.W.kitOne K (.ref t_Great) (.ref t_NotAll) = some false)
    (x_n2 : PySem.W.kitOne K (.ref t_NoVariable) (.ref t_NotAll) = some false)
    (x_g3 : PySem.W.kitOne K (.ref t_Great) (.ref t_NotSome) = some false)
    (x_n3 : PySem.W.kitOne K (.ref t_NoVariable) (.ref t_NotSome) = some false)
    (x_g4 : PySem.W.kitOne K (.ref t_Great) (.ref t_NotSame) = some false)
    (x_n4 : PySem.W.kitOne K (.ref t_NoVariable) (.ref t_NotSame) = some false)
    (x_g5 : PySem.W.kitOne K (.ref t_Great) (.ref t_Unlike) = some false)
    (x_n5 : PySem.W.kitOne K (.ref t_NoVariable) (.ref t_Unlike) = some false)
    (x_g6 : PySem.W.kitOne K (.ref t_Great) (.ref t_Great) = some true)
    (x_n6 : PySem.W.kitOne K (.ref t_NoVariable) (.ref t_Great) = some false)
    (x_g7 : PySem.W.kitOne K (.ref t_Great) (.ref t_Dry) = some false)
    (x_n7 : PySem.W.kitOne K (.ref t_NoVariable) (.ref t_Dry) = some false)
    (x_g8 : PySem.W.kitOne K (.ref t_Great) (.ref t_NoPlace) = some false)
    (x_n8 : PySem.W.kitOne K (.ref t_NoVariable) (.ref t_NoPlace) = some false)
    (x_g9 : PySem.W.kitOne K (.ref t_Great) (.ref t_NoStep) = some false)
    (x_n9 : PySem.W.kitOne K (.ref t_NoVariable) (.ref t_NoStep) = some false)
    (x_g10 : PySem.W.kitOne K (.ref t_Great) (.ref t_NoText) = some false)
    (x_n10 : PySem.W.kitOne K (.ref t_NoVariable) (.ref t_NoText) = some false)
    (x_g11 : PySem.W.kitOne K (.ref t_Great) (.ref t_NoWord) = some false)
    (x_n11 : PySem.W.kitOne K (.ref t_NoVariable) (.ref t_NoWord) = some false)
    (x_g12 : PySem.W.kitOne K (.ref t_Great) (.ref t_TwiceTold) = some false)
    (x_n12 : PySem.W.kitOne K (.ref t_NoVariable) (.ref t_TwiceTold) = some false)
    (x_g13 : PySem.W.kitOne K (.ref t_Great) (.ref t_NotClosed) = some false)
    (x_n13 : PySem.W.kitOne K (.ref t_NoVariable) (.ref t_NotClosed) = some false) : ∃ t, Txt K mg t :=
  ⟨⟨(), t_KIDS_DUE, t_BINDER_OVER, t_KeeperError, t_Great, t_NoPlace, t_NoStep, t_Dry, t_NoVariable, t_NoName, t_NotAll, t_NotSome, t_NotSame, t_Unlike, t_NoText, t_NoWord, t_TwiceTold, t_NotClosed⟩, ⟨⟨PySem.W.mg_none_of X G z_ValueError, PySem.W.mg_none_of X G z_bool, PySem.W.mg_none_of X G z_int, PySem.W.mg_none_of X G z_isinstance, PySem.W.mg_none_of X G z_len, PySem.W.mg_none_of X G z_list, PySem.W.mg_none_of X G z_max, PySem.W.mg_none_of X G z_range, PySem.W.mg_none_of X G z_tuple, PySem.W.mg_none_of X G z_zip, ⟨_, PySem.W.mg_of X G g_MOST_KNOTS⟩, ⟨_, PySem.W.mg_of X G g_MOST_DEEP⟩, ⟨_, PySem.W.mg_of X G g_MOST_VARIABLE⟩, PySem.W.mg_of X G g_KIDS_DUE, PySem.W.mg_of X G g_BINDER_OVER, PySem.W.mg_of X G g_KeeperError, PySem.W.mg_of X G g_Great, PySem.W.mg_of X G g_NoPlace, PySem.W.mg_of X G g_NoStep, PySem.W.mg_of X G g_Dry, PySem.W.mg_of X G g_NoVariable, PySem.W.mg_of X G g_NoName, PySem.W.mg_of X G g_NotAll, PySem.W.mg_of X G g_NotSome, PySem.W.mg_of X G g_NotSame, PySem.W.mg_of X G g_Unlike, PySem.W.mg_of X G g_NoText, PySem.W.mg_of X G g_NoWord, PySem.W.mg_of X G g_TwiceTold, PySem.W.mg_of X G g_NotClosed⟩, ⟨f0, _, fun_mk (st := s_is_number) l0 c0 k0, PySem.W.mg_of X G a0, (fun_mk (st := s_is_number) l0 c0 k0).binds fun _ _ _ _ _ _ => by1 (fun _ => rfl)⟩, ⟨f1, _, fun_mk (st := s_is_vast) l1 c1 k1, PySem.W.mg_of X G a1, (fun_mk (st := s_is_vast) l1 c1 k1).binds fun _ _ _ _ _ _ => by1 (fun _ => rfl)⟩, ⟨f2, _, fun_mk (st := s_kids_of) l2 c2 k2, PySem.W.mg_of X G a2, (fun_mk (st := s_kids_of) l2 c2 k2).binds fun _ _ _ _ _ _ => by1 (fun _ => rfl)⟩, ⟨f3, _, fun_mk (st := s_binds_of) l3 c3 k3, PySem.W.mg_of X G a3, (fun_mk (st := s_binds_of) l3 c3 k3).binds fun _ _ _ _ _ _ => by1 (fun _ => rfl)⟩, ⟨f4, _, fun_mk (st := s_top_variable) l4 c4 k4, PySem.W.mg_of X G a4, (fun_mk (st := s_top_variable) l4 c4 k4).binds fun _ _ _ _ _ _ => by1 (fun _ => rfl)⟩, ⟨f5, _, fun_mk (st := s_bounded) l5 c5 k5, PySem.W.mg_of X G a5, (fun_mk (st := s_bounded) l5 c5 k5).binds fun _ _ _ _ _ _ => by1 (fun _ => rfl)⟩, ⟨f6, _, fun_mk (st := s_rebuilt) l6 c6 k6, PySem.W.mg_of X G a6, (fun_mk (st := s_rebuilt) l6 c6 k6).binds fun _ _ _ _ _ _ => by2 (fun _ _ => rfl)⟩, ⟨f7, _, fun_mk (st := s_with_free) l7 c7 k7, PySem.W.mg_of X G a7, (fun_mk (st := s_with_free) l7 c7 k7).binds fun _ _ _ _ _ _ => by3 (fun _ _ _ => rfl)⟩, ⟨f8, _, fun_mk (st := s_raised) l8 c8 k8, PySem.W.mg_of X G a8, (fun_mk (st := s_raised) l8 c8 k8).binds fun _ _ _ _ _ _ => by3 (fun _ _ _ => rfl)⟩, ⟨f9, _, fun_mk (st := s_lifted) l9 c9 k9, PySem.W.mg_of X G a9, (fun_mk (st := s_lifted) l9 c9 k9).binds fun _ _ _ _ _ _ => by3 (fun _ _ _ => rfl)⟩, ⟨f10, _, fun_mk (st := s_kind_at) l10 c10 k10, PySem.W.mg_of X G a10, (fun_mk (st := s_kind_at) l10 c10 k10).binds fun _ _ _ _ _ _ => by2 (fun _ _ => rfl)⟩, ⟨f11, _, fun_mk (st := s_law_cell_at) l11 c11 k11, PySem.W.mg_of X G a11, (fun_mk (st := s_law_cell_at) l11 c11 k11).binds fun _ _ _ _ _ _ => by2 (fun _ _ => rfl)⟩, ⟨f12, _, fun_mk (st := s_law_context) l12 c12 k12, PySem.W.mg_of X G a12, (fun_mk (st := s_law_context) l12 c12 k12).binds fun _ _ _ _ _ _ => by1 (fun _ => rfl)⟩, ⟨f13, _, fun_mk (st := s_law_word_of) l13 c13 k13, PySem.W.mg_of X G a13, (fun_mk (st := s_law_word_of) l13 c13 k13).binds fun _ _ _ _ _ _ => by1 (fun _ => rfl)⟩, ⟨f14, _, fun_mk (st := s_law_answer) l14 c14 k14, PySem.W.mg_of X G a14, (fun_mk (st := s_law_answer) l14 c14 k14).binds fun _ _ _ _ _ _ => by2 (fun _ _ => rfl)⟩, ⟨f15, _, fun_mk (st := s_law_lifted) l15 c15 k15, PySem.W.mg_of X G a15, (fun_mk (st := s_law_lifted) l15 c15 k15).binds fun _ _ _ _ _ _ => by2 (fun _ _ => rfl)⟩, ⟨f16, _, fun_mk (st := s_law) l16 c16 k16, PySem.W.mg_of X G a16, (fun_mk (st := s_law) l16 c16 k16).binds fun _ _ _ _ _ _ => by1 (fun _ => rfl)⟩, ⟨_, kd_mk sy_KIDS_DUE lk_KIDS_DUE ks_KIDS_DUE rf_KIDS_DUE rfl (sq_cons (sqk_mk u0_KIDS_DUE v0_KIDS_DUE) (sq_cons (sqk_mk u1_KIDS_DUE v1_KIDS_DUE) (sq_cons (sqk_mk u2_KIDS_DUE v2_KIDS_DUE) (sq_cons (sqk_mk u3_KIDS_DUE v3_KIDS_DUE) (sq_cons (sqk_mk u4_KIDS_DUE v4_KIDS_DUE) (sq_cons (sqk_mk u5_KIDS_DUE v5_KIDS_DUE) (sq_cons (sqk_mk u6_KIDS_DUE v6_KIDS_DUE) (sq_cons (sqk_mk u7_KIDS_DUE v7_KIDS_DUE) (sq_cons (sqk_mk u8_KIDS_DUE v8_KIDS_DUE) (sq_cons (sqk_mk u9_KIDS_DUE v9_KIDS_DUE) (sq_cons (sqk_mk u10_KIDS_DUE v10_KIDS_DUE) (sq_cons (sqk_mk u11_KIDS_DUE v11_KIDS_DUE) (sq_cons (sqk_mk u12_KIDS_DUE v12_KIDS_DUE) (sq_cons (sqk_mk u13_KIDS_DUE v13_KIDS_DUE) (sq_cons (sqk_mk u14_KIDS_DUE v14_KIDS_DUE) (sq_cons (sqk_mk u15_KIDS_DUE v15_KIDS_DUE) (sq_cons (sqk_mk u16_KIDS_DUE v16_KIDS_DUE) (sq_cons (sqk_mk u17_KIDS_DUE v17_KIDS_DUE) sq_nil))))))))))))))))))⟩, tabi_mk sy_BINDER_OVER lk_BINDER_OVER vs_BINDER_OVER, ⟨⟨_, _, _, PySem.F.excBase_ValueError, x_gr⟩, ⟨_, _, _, PySem.F.excBase_ValueError, x_nv⟩, ⟨_, _, _, PySem.F.excBase_ValueError, x_ke⟩, ⟨x_cg1, x_cg2, x_cg3, x_cg4, x_cg5, x_cg6⟩, ⟨x_cn1, x_cn2, x_cn3, x_cn4, x_cn5, x_cn6⟩, x_s1, x_s2, x_s3, x_vg, x_vn, x_g0, x_n0, x_g1, x_n1, x_g2, x_n2, x_g3, x_n3, x_g4, x_n4, x_g5, x_n5, x_g6, x_n6, x_g7, x_n7, x_g8, x_n8, x_g9, x_n9, x_g10, x_n10, x_g11, x_n11, x_g12, x_n12, x_g13, x_n13⟩⟩⟩
theorem fin {l : PySem.W.OpenLaw} {w : World} {K : PySem.W.Frag} {mg : Str → Option Value} {t : Adr} {fa c1 T1 : Addr} {h : Heap} (KX : K.In h) (G : h.Ns mainGlobals mg) (h1 : PySem.W.tabIn K "raised" = some (c1, T1)) (h2 : PySem.W.codeHdIn K c1 T1 = true) (T : Txt K mg t) (hfa : mg "law" = some (.ref fa)) :
    ∃ fd : FuncData, (∀ (s : Shared) (v : Value), BindsTo s fd ⟨[v], []⟩ [("_law_script", v)]) ∧ ∀ base : Heap, FnOk l.prog w K mg base CX0 141 fa fd ["_law_script"] (spLaw K T1) := by
  obtain ⟨f, fd, F, m, b⟩ := T.D_law
  have e := hfa.symm.trans m
  cases e
  refine ⟨fd, ?_, fun base => ?_⟩
  · obtain ⟨oc, od, kV, doc, pm, an, cdv, ct, osl, rfl, lk, hcd⟩ := F.ex
    exact fun s v => .of_eq rfl
  obtain ⟨as, TK⟩ := T.T_KIDS_DUE
  have c1 := c_cell (P := l.prog) (w := w) T.D_law_cell_at T.M
  have p2 := c_kids_of (P := l.prog) (w := w) T.D_kids_of T.M
  have p3 := c_binds_of (P := l.prog) (w := w) T.D_binds_of T.M TK T.T_BINDER_OVER
  have y3 := c_top_variable T.D_top_variable T.M p2 60
  have y4 := c_is_vast (P := l.prog) (w := w) T.D_is_vast T.M
  have y5 := c_bounded T.D_bounded T.M T.X.gr y4 y3
  have y6 := c_rebuilt (P := l.prog) (w := w) T.D_rebuilt T.M
  have y7 := c_with_free (kc := 1) T.D_with_free T.M p2 p3 y6 60
  have y8 := c_raised (dfn_of T.D_raised KX G h1 h2) T.M y7
  have y9 := c_lifted T.D_lifted T.M y8 y5
  have n1 := c_is_number (P := l.prog) (w := w) T.D_is_number T.M
  have n2 := c_kind_at T.D_kind_at T.M T.X n1 y9
  have n3 := c_law_word_of (P := l.prog) (w := w) T.D_law_word_of T.M T.X
  have n4 := c_law_answer T.D_law_answer T.M T.X n2 n3
  have n5 := c_law_lifted T.D_law_lifted T.M T.X y9
  have n6 := c_law_context (P := l.prog) (w := w) T.D_law_context T.M
  exact c_law F T.M c1 n6 n4 n5
theorem walk {l : PySem.W.OpenLaw} {q : Program} {loose : List Str} {XP : (Str → Option Value) → Heap → Prop} {YP : World → Heap → Prop} {d : DefRec} {K : Params → PySem.W.Frag} {c1 T1 : Addr} (hn : l.most = some 63) (hdf : d.params.defaults = [])
    (hY : ∀ (w : World) (h : Heap), YP w h → (K w.params).In h)
    (h2 : ∀ w : World, PySem.W.codeHdIn (K w.params) c1 T1 = true) (h3 : ∀ w : World, (K w.params).lookup T1 = none) (h4 : ∀ (w : World) (h : Heap), YP w h → h.get? T1 = some (PySem.W.tabObj #[]))
    (F : ∀ (w : World) (mg : Str → Option Value) (fa : Addr) (h : Heap), (K w.params).In h → h.Ns mainGlobals mg → mg d.name = some (.ref fa) →
      ∃ fd : FuncData, (∀ (s : Shared) (u : Value), BindsTo s fd ⟨[u], []⟩ [("_law_script", u)]) ∧ ∀ base : Heap, FnOk l.prog w (K w.params) mg base CX0 141 fa fd ["_law_script"] (spLaw (K w.params) T1)) :
    PySem.W.WalkO q loose XP YP l.row.toRowW d [] (fun f vs => PySem.call f vs) :=
  walk_ofT (ts := [(c1, T1, .tab tabQ (rawInt tabP.line) (rawInt tabP.col))]) (n := 63) (k := 141) (x := "_law_script") (sp := fun w => spLaw (K w.params) T1) hn (by decide) hdf ⟨by decide, by decide, fun _ => rfl⟩ hY
    (fun w h Y => ⟨fun q hq => by obtain rfl := List.mem_singleton.mp hq; exact h4 w h Y, fun q hq => by obtain rfl := List.mem_singleton.mp hq; exact h2 w, fun q hq => by obtain rfl := List.mem_singleton.mp hq; exact h3 w, fun q hq => by obtain rfl := List.mem_singleton.mp hq; exact ⟨_, _, _, rfl⟩⟩)
    F fun w H a ns hl hO hS => ⟨a, ns, rfl, hS, hO (c1, T1, .tab tabQ (rawInt tabP.line) (rawInt tabP.col)) (List.mem_singleton.mpr rfl) (by simp [List.lookup]), fun _ => rfl⟩
end K40
end
section
namespace HD
open PySem PySem.W PySem.Calls PyProof.Rows
noncomputable def halves {α : Type} : List α → List α × List α
  | [] => ([], [])
  | x :: r => (x :: (halves r).2, (halves r).1)
noncomputable def mkTF : Nat → List Obj → BT
  | 0, _ => .nil
  | _ + 1, [] => .nil
  | n + 1, x :: r => .node x (mkTF n (halves r).1) (mkTF n (halves r).2)
noncomputable def mkT (l : List Obj) : BT := mkTF 14 l
noncomputable def view (p : Program) (l : List Stmt) : Program := { p with main := { p.main with body := l } }
noncomputable abbrev Two (β : Type) : Type := World → (OsState → β) × (OsState → β)
noncomputable def Ok {β : Type} (q : Two β) : Prop := ∀ w, (q w).1 = (q w).2
theorem by1 {β : Type} {q q' : Two β} (e : q = q') (h : ∀ w, (q' w).1 = (q' w).2) : Ok q := by
  subst e
  exact h
theorem by2 {β : Type} {q qf qt : Two β} (r : String) (ef : (fun w => q (w.withFollow r false)) = qf) (et : (fun w => q (w.withFollow r true)) = qt) (hf : ∀ w, (qf w).1 = (qf w).2) (ht : ∀ w, (qt w).1 = (qt w).2) : Ok q := by
  subst ef et
  exact fun w => byRow2 r (P := fun w => (q w).1 = (q w).2) hf ht w
section
variable (p : Program) (m : Nat) (ann : Option Value)
noncomputable def pre (n : Nat) (S S' : World → OsState → Shared) (t t' : Thread) : Two (Option (Shared × Thread)) := fun w => (fun os => topGo treeTable p w m ann n (S w os) t, fun os => some (S' w os, t'))
noncomputable def blk (n : Nat) (S : World → OsState → Shared) (S' : World → OsState → SharedT) (b : List Stmt) (env : Env) (c : Code) (p1 p2 : Pos) (B : List Frame) : Two (Option (Flow × Shared × Code × Pos)) :=
  fun w => (fun os => segRun treeTable p w m ann 1 n (S w os) (blockOf b env c p1 B), fun os => some (Flow.next, (S' w os).abs, c, p2))
noncomputable def seg (n : Nat) (S S' : World → OsState → SharedT) (l : List Stmt) (env : Env) (c : Code) (p1 p2 : Pos) (B : List Frame) : Two (Option (Flow × SharedT × Code × Pos)) :=
  fun w => (fun os => segRunT treeTable p w m ann 1 n (S w os) (piecesOf l env c p1 B), fun os => some (Flow.next, S' w os, c, p2))
noncomputable def fin (n : Nat) (S : World → OsState → SharedT) (S' : World → OsState → Shared) (t : Thread) : Two (Option Shared) := fun w => (fun os => topRun treeTable p w m ann n (S w os).abs t, fun os => some (S' w os))
variable {p : Program} {m : Nat} {ann : Option Value}
noncomputable def Goes (p : Program) (m : Nat) (ann : Option Value) (R : World → OsState → Shared) (n : Nat) (S : World → OsState → Shared) (t : Thread) : Prop := ∀ w os, topRun treeTable p w m ann n (S w os) t = some (R w os)
noncomputable def absS (S : World → OsState → SharedT) : World → OsState → Shared := fun w os => (S w os).abs
theorem g_fin {n : Nat} {S : World → OsState → SharedT} {R : World → OsState → Shared} {env : Env} {c : Code} {pos q : Pos} (h : Ok (fin p m ann n S R ⟨doneF .next, c, pos, [topFrame q]⟩)) :
    Goes p m ann R n (absS S) (restOf [] env c pos [topFrame q]) := fun w os => piece_nil (congrFun (h w) os)
theorem g_seg {n N : Nat} {S S' : World → OsState → SharedT} {R : World → OsState → Shared} {l rest : List Stmt} {env : Env} {c : Code} {p1 p2 q : Pos} (h : Ok (seg p m ann n S S' l env c p1 p2 [topFrame q]))
    (k : Goes p m ann R N (absS S') (restOf rest env c p2 [topFrame q])) : Goes p m ann R (n + N) (absS S) (restOf (l ++ rest) env c p1 [topFrame q]) := fun w os => piece_app (segRun_of (congrFun (h w) os)) (k w os)
theorem g_blk {n N : Nat} {S : World → OsState → Shared} {S' : World → OsState → SharedT} {R : World → OsState → Shared} {b b' : List Stmt} {env : Env} {p1 p2 q : Pos} (e : b = b') (h : Ok (blk p m ann n S S' b env (.body b env) p1 p2 [topFrame q]))
    (k : Goes p m ann R N (absS S') (restOf b' env (.body b env) p2 [topFrame q])) : Goes p m ann R (n + N) S ⟨denote treeTable (.body b env), .body b env, p1, [topFrame q]⟩ := fun w os => by
  subst e
  exact piece_block (congrFun (h w) os) (k w os)
theorem g_pre {n N : Nat} {S S' R : World → OsState → Shared} {t t' : Thread} (h : Ok (pre p m ann n S S' t t')) (k : Goes p m ann R N S' t') : Goes p m ann R (n + N) S t := fun w os => go_top (congrFun (h w) os) (k w os)
end
noncomputable def sz (m : Nat) (ann : Option Value) : Two (Bool × Nat × Option Value) := fun w => (fun _ => ((boot_heap w.params).isNs mainGlobals && (Array.mk [] : Array GenState).size == 0, (boot_heap w.params).objs.size, (boot_heap w.params).nsMap mainGlobals "__annotations__"), fun _ => (true, m, ann))
noncomputable def mkS (H : Params → Heap) (d : Drawn) (k : Nat) : World → OsState → Shared := fun w os => ⟨H w.params, Array.mk [], d, k, os⟩
noncomputable def la (p : Program) (H₁ : Params → Heap) (d : Drawn) (k : Nat) : Two Bool := fun w => (fun os => (staticsOk (importedModules p.main.body) (boot_heap w.params) (H₁ w.params) && namesBound p (H₁ w.params) && gensDone ⟨H₁ w.params, Array.mk [], d, k, os⟩ && laidKept (boot_heap w.params) (H₁ w.params)), fun _ => true)
noncomputable def lb (p q : Program) (loose : List Str) (Xt : Shared → Bool) (H₁ : Params → Heap) (d : Drawn) (k : Nat) := fun (w : World) => ((fun (os : OsState) => openSeen q loose (importedModules p.main.body) Xt true ⟨H₁ w.params, Array.mk [], d, k, os⟩), (fun (_ : OsState) => openGood q loose))
noncomputable def lc (H : Hook) (H₁ : Params → Heap) (d : Drawn) (k : Nat) : Two H.α := fun w => (fun os => H.obs ⟨H₁ w.params, Array.mk [], d, k, os⟩, fun _ => H.val w)
theorem left {p q : Program} {loose : List Str} {Xt : Shared → Bool} {H : Hook} {N m M : Nat} {ann : Option Value} {H₁ : Params → Heap} {d : Drawn} {k : Nat} (e : opening p = plainProg p.main.scope.names) (hN : Nat.ble 600 N = true) (f : ∀ s, fenceModules? p s = some s)
    (size : Ok (sz m ann)) (run : Goes p m ann (mkS H₁ d k) M (mkS boot_heap boot_drawn boot_toks) (topStub p)) (le : Nat.ble M N = true) (ha : Ok (la p H₁ d k)) (hb : Ok (lb p q loose Xt H₁ d k)) (hc : Ok (lc H H₁ d k)) : LeftO p q loose Xt H.obs H.val N :=
  LeftO.of_pieces (H₀ := boot_heap) (H₁ := H₁) (boot_open e hN f) (fun w => congrFun (size w) default) run le
    fun w => funext fun os => looks_pair (congrFun (ha w) os) (looks_pair (congrFun (hb w) os) (congrFun (hc w) os))
end HD
end
section
namespace K40
open PySem PySem.W PySem.Calls PyProof.Rows
noncomputable abbrev pw : Program := PySem.Challenge.pw_keeper_k40_variables
noncomputable def ht (i : Nat) : Stmt := pw.main.body.getD i (.Pass ⟨0, 0, 0, 0⟩)
noncomputable def x0 : Str := .ofString "__name__"
noncomputable def x1 : Str := .ofString "builtins"
noncomputable def x2 : Str := .ofString "__doc__"
noncomputable def x3 : Str := .ofString "__package__"
noncomputable def x4 : Str := .ofString "__loader__"
noncomputable def x5 : Str := .ofString "__spec__"
noncomputable def x7 : Str := .ofString "__import__"
noncomputable def x9 : Str := .ofString "all"
noncomputable def x38 : Str := .ofString "next"
noncomputable def x160 : Str := .ofString "__main__"
noncomputable def x161 : Str := .ofString "__annotations__"
noncomputable def x162 : Str := .ofString "__builtins__"
noncomputable def x163 : Str := .ofString "__file__"
noncomputable def x164 : Str := .ofString "/claim/cut.py"
noncomputable def x165 : Str := .ofString "__cached__"
noncomputable def x166 : Str := .ofString "<module>"
noncomputable def x167 : Str := .ofString "_wall"
noncomputable def x168 : Str := .ofString "k"
noncomputable def x169 : Str := .ofString "keeper.errors"
noncomputable def x170 : Str := .ofString "KeeperError"
noncomputable def x171 : Str := .ofString "__module__"
noncomputable def x172 : Str := .ofString "__qualname__"
noncomputable def x173 : Str := .ofString "__firstlineno__"
noncomputable def x174 : Str := .ofString "small_name"
noncomputable def x175 : Str := .ofString "__static_attributes__"
noncomputable def x176 : Str := .ofString "self"
noncomputable def x177 : Str := .ofString "KeeperError.small_name"
noncomputable def x178 : Str := .ofString "__weakref__"
noncomputable def x179 : Str := .ofString "Great"
noncomputable def x180 : Str := .ofString "Great.small_name"
noncomputable def x181 : Str := .ofString "NoPlace"
noncomputable def x182 : Str := .ofString "NoPlace.small_name"
noncomputable def x183 : Str := .ofString "NoStep"
noncomputable def x184 : Str := .ofString "NoStep.small_name"
noncomputable def x185 : Str := .ofString "Dry"
noncomputable def x186 : Str := .ofString "Dry.small_name"
noncomputable def x187 : Str := .ofString "NoVariable"
noncomputable def x188 : Str := .ofString "NoVariable.small_name"
noncomputable def x189 : Str := .ofString "NoName"
noncomputable def x190 : Str := .ofString "NoName.small_name"
noncomputable def x191 : Str := .ofString "NotAll"
noncomputable def x192 : Str := .ofString "NotAll.small_name"
noncomputable def x193 : Str := .ofString "NotSome"
noncomputable def x194 : Str := .ofString "NotSome.small_name"
noncomputable def x195 : Str := .ofString "NotSame"
noncomputable def x196 : Str := .ofString "NotSame.small_name"
noncomputable def x197 : Str := .ofString "Unlike"
noncomputable def x198 : Str := .ofString "Unlike.small_name"
noncomputable def x199 : Str := .ofString "NoText"
noncomputable def x200 : Str := .ofString "NoText.small_name"
noncomputable def x201 : Str := .ofString "NoWord"
noncomputable def x202 : Str := .ofString "NoWord.small_name"
noncomputable def x203 : Str := .ofString "TwiceTold"
noncomputable def x204 : Str := .ofString "TwiceTold.small_name"
noncomputable def x205 : Str := .ofString "NotClosed"
noncomputable def x206 : Str := .ofString "NotClosed.small_name"
noncomputable def x207 : Str := .ofString "keeper.things"
noncomputable def x208 : Str := .ofString "MOST_KNOTS"
noncomputable def x209 : Str := .ofString "MOST_DEEP"
noncomputable def x210 : Str := .ofString "MOST_VARIABLE"
noncomputable def x211 : Str := .ofString "KIDS_DUE"
noncomputable def x212 : Str := .ofString "nat"
noncomputable def x213 : Str := .ofString "none"
noncomputable def x214 : Str := .ofString "some"
noncomputable def x215 : Str := .ofString "same"
noncomputable def x216 : Str := .ofString "var"
noncomputable def x217 : Str := .ofString "fun"
noncomputable def x218 : Str := .ofString "app"
noncomputable def x219 : Str := .ofString "zero"
noncomputable def x220 : Str := .ofString "rec"
noncomputable def x221 : Str := .ofString "like"
noncomputable def x222 : Str := .ofString "carry"
noncomputable def x223 : Str := .ofString "never"
noncomputable def x224 : Str := .ofString "pair"
noncomputable def x225 : Str := .ofString "first"
noncomputable def x226 : Str := .ofString "second"
noncomputable def x227 : Str := .ofString "name"
noncomputable def x228 : Str := .ofString "kind"
noncomputable def x229 : Str := .ofString "term"
noncomputable def x230 : Str := .ofString "BINDER_OVER"
noncomputable def x231 : Str := .ofString "is_number"
noncomputable def x232 : Str := .ofString "value"
noncomputable def x233 : Str := .ofString "is_vast"
noncomputable def x234 : Str := .ofString "kids_of"
noncomputable def x235 : Str := .ofString "thing"
noncomputable def x236 : Str := .ofString "binds_of"
noncomputable def x237 : Str := .ofString "top_variable"
noncomputable def x238 : Str := .ofString "bounded"
noncomputable def x239 : Str := .ofString "rebuilt"
noncomputable def x240 : Str := .ofString "kids"
noncomputable def x241 : Str := .ofString "keeper.putting"
noncomputable def x242 : Str := .ofString "with_free"
noncomputable def x243 : Str := .ofString "raised"
noncomputable def x244 : Str := .ofString "by"
noncomputable def x245 : Str := .ofString "low"
noncomputable def x246 : Str := .ofString "change"
noncomputable def x247 : Str := .ofString "lifted"
noncomputable def x248 : Str := .ofString "keeper.judging"
noncomputable def x249 : Str := .ofString "kind_at"
noncomputable def x250 : Str := .ofString "context"
noncomputable def x251 : Str := .ofString "number"
noncomputable def x252 : Str := .ofString "law_keeper_k40_variables"
noncomputable def x253 : Str := .ofString "_law_cell_at"
noncomputable def x254 : Str := .ofString "_law_script"
noncomputable def x255 : Str := .ofString "_law_k"
noncomputable def x256 : Str := .ofString "_law_context"
noncomputable def x257 : Str := .ofString "_law_cell"
noncomputable def x258 : Str := .ofString "_law_made_of"
noncomputable def x259 : Str := .ofString "_law_way"
noncomputable def x260 : Str := .ofString "_law_kind"
noncomputable def x261 : Str := .ofString "_law_book"
noncomputable def x262 : Str := .ofString "_law_book_here"
noncomputable def x263 : Str := .ofString "_law_word_of"
noncomputable def x264 : Str := .ofString "_law_e"
noncomputable def x265 : Str := .ofString "_law_words"
noncomputable def x266 : Str := .ofString "_law_answer"
noncomputable def x267 : Str := .ofString "_law_context_here"
noncomputable def x268 : Str := .ofString "_law_number"
noncomputable def x269 : Str := .ofString "_law_lifted"
noncomputable def x270 : Str := .ofString "_law_by"
noncomputable def x271 : Str := .ofString "law"
noncomputable def x272 : Str := .ofString "_law_far"
noncomputable def x273 : Str := .ofString "_law_side"
noncomputable def x274 : Str := .ofString "_law_handed"
noncomputable def x275 : Str := .ofString "_law_got"
noncomputable def x276 : Str := .ofString "_law_due"
noncomputable def x277 : Str := .ofString "_law_further"
noncomputable def hE : Env := { scope := pw.main.scope, locals := mainNs, globals := mainNs, cells := [], code := (.ref (nat_lit 13)), frame := some (nat_lit 14) }
noncomputable def hC : Code := .body (behindTheImports pw) hE
noncomputable def hB : List Frame := [topFrame ⟨(nat_lit 0), (nat_lit 0), (nat_lit 0), (nat_lit 0)⟩]
noncomputable abbrev S0 : World → OsState → Shared := HD.mkS boot_heap boot_drawn boot_toks
noncomputable def o11_a (P : Params) : Obj := ⟨(.type "tuple"), none, (.seq #[] (nat_lit 0)), #[]⟩
noncomputable def o12_a (P : Params) : Obj := ⟨.none, none, (.fields #[]), #[]⟩
noncomputable def o13_a (P : Params) : Obj := ⟨(.type "code"), none, (.fields #[(.str x166 (nat_lit 182)), (.str x166 (nat_lit 183)), (.str x164 (nat_lit 184)), (.int (.ofNat (nat_lit 1)) (nat_lit 0)), (.int (.ofNat (nat_lit 0)) (nat_lit 0)), (.int (.ofNat (nat_lit 0)) (nat_lit 0)), (.int (.ofNat (nat_lit 0)) (nat_lit 0)), (.int (.ofNat (nat_lit 0)) (nat_lit 0)), (.ref (nat_lit 11)), (.bool false), (.int (.ofNat (nat_lit 181)) (nat_lit 0)), (.ref (nat_lit 12)), .none, .none, .none, .none, (.int (.ofNat (nat_lit 185)) (nat_lit 0)), (.int (.ofNat (nat_lit 1)) (nat_lit 0)), (.str x164 (nat_lit 186))]), #[]⟩
noncomputable def o14_a (P : Params) : Obj := ⟨(.type "frame"), none, .plain, #[(some (.ref (nat_lit 13))), (some (.ref (nat_lit 3))), (some (.ref (nat_lit 3))), none, (some (.str x160 (nat_lit 164))), none, (some (.ref (nat_lit 0)))]⟩
noncomputable def Ha_0 (P : Params) (r : List (Obj)) : List (Obj) := PySem.W.boot_o_0 P :: PySem.W.boot_o_1 P :: PySem.W.boot_o_2 P :: PySem.W.boot_o_3 P :: PySem.W.boot_o_4 P :: PySem.W.boot_o_5 P :: PySem.W.boot_o_6 P :: PySem.W.boot_o_7 P :: PySem.W.boot_o_8 P :: PySem.W.boot_o_9 P :: PySem.W.boot_o_10 P :: o11_a P :: r
noncomputable def Ha_1 (P : Params) (r : List (Obj)) : List (Obj) := o12_a P :: o13_a P :: o14_a P :: r
noncomputable def Ha (P : Params) : Heap := ⟨Array.mk (Ha_0 P (Ha_1 P [])), ⟨[], [], [], (nat_lit 0), [], [], false, #[], [], (nat_lit 0), false, false, false, (.ofNat (nat_lit 0)), [(.ofNat (nat_lit 2000)), (.ofNat (nat_lit 10)), (.ofNat (nat_lit 10))], false, (nat_lit 0), true, [], [], (nat_lit 0), false⟩⟩
noncomputable def da : Drawn := ⟨(nat_lit 0), (nat_lit 0), (nat_lit 0), (nat_lit 0)⟩
noncomputable def ka : Nat := nat_lit 187
noncomputable abbrev Sa : World → OsState → Shared := HD.mkS Ha da ka
noncomputable def qa (w : World) : (OsState → Option (Shared × Thread)) × (OsState → Option (Shared × Thread)) := (fun os => topGo treeTable pw w (nat_lit 11) (some (.ref (nat_lit 6))) (nat_lit 12) (S0 w os) (topStub pw), fun os => some (Sa w os, Thread.mk (denote treeTable hC) hC ⟨(nat_lit 0), (nat_lit 0), (nat_lit 0), (nat_lit 0)⟩ hB))
theorem qa_eq : HD.pre pw (nat_lit 11) (some (.ref (nat_lit 6))) (nat_lit 12) S0 Sa (topStub pw) (Thread.mk (denote treeTable hC) hC ⟨(nat_lit 0), (nat_lit 0), (nat_lit 0), (nat_lit 0)⟩ hB) = qa := by kernel_rfl
name_quick YK40a for qa by qa_eq
theorem ia (w : World) : (Fast.YK40a w).1 = (Fast.YK40a w).2 := by kernel_rfl
theorem ha : HD.Ok (HD.pre pw (nat_lit 11) (some (.ref (nat_lit 6))) (nat_lit 12) S0 Sa (topStub pw) (Thread.mk (denote treeTable hC) hC ⟨(nat_lit 0), (nat_lit 0), (nat_lit 0), (nat_lit 0)⟩ hB)) := HD.by1 Fast.YK40a_eq ia
noncomputable def Tb_0 (P : Params) (r : List (Obj)) : List (Obj) := PySem.W.boot_o_0 P :: PySem.W.boot_o_1 P :: PySem.W.boot_o_2 P :: PySem.W.boot_o_3 P :: PySem.W.boot_o_4 P :: PySem.W.boot_o_5 P :: PySem.W.boot_o_6 P :: PySem.W.boot_o_7 P :: PySem.W.boot_o_8 P :: PySem.W.boot_o_9 P :: PySem.W.boot_o_10 P :: o11_a P :: r
noncomputable def Tb_1 (P : Params) (r : List (Obj)) : List (Obj) := o12_a P :: o13_a P :: o14_a P :: r
noncomputable def Tb (P : Params) : BT := HD.mkT (Tb_0 P (Tb_1 P []))
noncomputable def lfb : Life := ⟨[], [], [], (nat_lit 0), [], [], false, #[], [], (nat_lit 0), false, false, false, (.ofNat (nat_lit 0)), [(.ofNat (nat_lit 2000)), (.ofNat (nat_lit 10)), (.ofNat (nat_lit 10))], false, (nat_lit 0), true, [], [], (nat_lit 0), false⟩
noncomputable abbrev Sb (w : World) (os : OsState) : SharedT := ⟨Tb w.params, nat_lit 15, lfb, Array.mk [], ⟨(nat_lit 0), (nat_lit 0), (nat_lit 0), (nat_lit 0)⟩, nat_lit 187, os⟩
noncomputable def qb (w : World) : (OsState → Option (Flow × Shared × Code × Pos)) × (OsState → Option (Flow × Shared × Code × Pos)) := (fun os => segRun treeTable pw w (nat_lit 11) (some (.ref (nat_lit 6))) (nat_lit 1) (nat_lit 1) (Sa w os) (blockOf (behindTheImports pw) hE hC ⟨(nat_lit 0), (nat_lit 0), (nat_lit 0), (nat_lit 0)⟩ hB), fun os => some (Flow.next, (Sb w os).abs, hC, ⟨(nat_lit 0), (nat_lit 0), (nat_lit 0), (nat_lit 0)⟩))
theorem qb_eq : HD.blk pw (nat_lit 11) (some (.ref (nat_lit 6))) (nat_lit 1) Sa Sb (behindTheImports pw) hE hC ⟨(nat_lit 0), (nat_lit 0), (nat_lit 0), (nat_lit 0)⟩ ⟨(nat_lit 0), (nat_lit 0), (nat_lit 0), (nat_lit 0)⟩ hB = qb := by kernel_rfl
name_quick YK40b for qb by qb_eq
theorem ib (w : World) : (Fast.YK40b w).1 = (Fast.YK40b w).2 := by kernel_rfl
theorem hb : HD.Ok (HD.blk pw (nat_lit 11) (some (.ref (nat_lit 6))) (nat_lit 1) Sa Sb (behindTheImports pw) hE hC ⟨(nat_lit 0), (nat_lit 0), (nat_lit 0), (nat_lit 0)⟩ ⟨(nat_lit 0), (nat_lit 0), (nat_lit 0), (nat_lit 0)⟩ hB) := HD.by1 Fast.YK40b_eq ib
noncomputable def o3_1 (P : Params) : Obj := ⟨(.type "dict"), none, (.dict #[⟨(PyData.keyHash P x0), (.str x0 (nat_lit 165)), (.str x169 (nat_lit 194))⟩, ⟨(PyData.keyHash P x2), (.str x2 (nat_lit 166)), .none⟩, ⟨(PyData.keyHash P x3), (.str x3 (nat_lit 167)), .none⟩, ⟨(PyData.keyHash P x4), (.str x4 (nat_lit 168)), (.builtin "__main__.__loader__#opaque")⟩, ⟨(PyData.keyHash P x5), (.str x5 (nat_lit 169)), .none⟩, ⟨(PyData.keyHash P x161), (.str x161 (nat_lit 170)), (.ref (nat_lit 6))⟩, ⟨(PyData.keyHash P x162), (.str x162 (nat_lit 171)), (.ref (nat_lit 4))⟩, ⟨(PyData.keyHash P x163), (.str x163 (nat_lit 173)), (.str x164 (nat_lit 172))⟩, ⟨(PyData.keyHash P x165), (.str x165 (nat_lit 174)), .none⟩, ⟨(PyData.keyHash P x167), (.str x167 (nat_lit 193)), (.ref (nat_lit 21))⟩, ⟨(PyData.keyHash P x170), (.str x170 (nat_lit 220)), (.ref (nat_lit 38))⟩] (nat_lit 11)), #[]⟩
noncomputable def o12_1 (P : Params) : Obj := ⟨.none, none, (.fields #[(.int (.ofNat (nat_lit 1)) (nat_lit 0)), (.int (.ofNat (nat_lit 0)) (nat_lit 0)), (.ref (nat_lit 20)), (.int (.ofNat (nat_lit 5)) (nat_lit 0)), (.int (.ofNat (nat_lit 0)) (nat_lit 0)), (.ref (nat_lit 27))]), #[]⟩
noncomputable def o15_1 (P : Params) : Obj := ⟨(.type "tuple"), none, (.seq #[] (nat_lit 0)), #[]⟩
noncomputable def o16_1 (P : Params) : Obj := ⟨.none, none, (.fields #[]), #[]⟩
noncomputable def o17_1 (P : Params) : Obj := ⟨(.type "tuple"), none, (.seq #[(.str x168 (nat_lit 190))] (nat_lit 0)), #[]⟩
noncomputable def o18_1 (P : Params) : Obj := ⟨(.type "tuple"), none, (.seq #[] (nat_lit 0)), #[]⟩
noncomputable def o19_1 (P : Params) : Obj := ⟨.none, none, (.func ⟨x167, x167, L2.defArgs (ht 0), .stmts (L2.defBody (ht 0)), L2.defScope (ht 0), (nat_lit 0), [], .none, .none, .none, .none, none, .none, .none, (nat_lit 0)⟩), #[]⟩
noncomputable def o20_1 (P : Params) : Obj := ⟨(.type "code"), none, (.fields #[(.str x167 (nat_lit 187)), (.str x167 (nat_lit 188)), (.str x164 (nat_lit 189)), (.int (.ofNat (nat_lit 1)) (nat_lit 0)), (.int (.ofNat (nat_lit 1)) (nat_lit 0)), (.int (.ofNat (nat_lit 0)) (nat_lit 0)), (.int (.ofNat (nat_lit 0)) (nat_lit 0)), (.int (.ofNat (nat_lit 3)) (nat_lit 0)), (.ref (nat_lit 15)), (.bool true), (.int (.ofNat (nat_lit 181)) (nat_lit 0)), (.ref (nat_lit 16)), .none, (.ref (nat_lit 17)), (.ref (nat_lit 18)), (.ref (nat_lit 19)), (.int (.ofNat (nat_lit 191)) (nat_lit 0)), (.int (.ofNat (nat_lit 1)) (nat_lit 0)), (.str x164 (nat_lit 192))]), #[]⟩
noncomputable def o21_1 (P : Params) : Obj := ⟨(.type "function"), none, (.func ⟨x167, x167, L2.defArgs (ht 0), .stmts (L2.defBody (ht 0)), L2.defScope (ht 0), (nat_lit 3), [], .none, .none, .none, (.str x160 (nat_lit 164)), none, (.ref (nat_lit 20)), .none, (nat_lit 0)⟩), #[]⟩
noncomputable def o22_1 (P : Params) : Obj := ⟨(.type "tuple"), none, (.seq #[(.type "ValueError")] (nat_lit 0)), #[]⟩
noncomputable def o23_1 (P : Params) : Obj := ⟨(.type "builtin_function_or_method"), none, (.fields #[(.builtin "type.__prepare__"), (.type "type")]), #[]⟩
noncomputable def o24_1 (P : Params) : Obj := ⟨(.type "dict"), none, (.dict #[⟨(PyData.keyHash P x171), (.str x171 (nat_lit 203)), (.str x169 (nat_lit 194))⟩, ⟨(PyData.keyHash P x172), (.str x172 (nat_lit 205)), (.str x170 (nat_lit 204))⟩, ⟨(PyData.keyHash P x173), (.str x173 (nat_lit 207)), (.int (.ofNat (nat_lit 5)) (nat_lit 206))⟩, ⟨(PyData.keyHash P x174), (.str x174 (nat_lit 214)), (.ref (nat_lit 35))⟩, ⟨(PyData.keyHash P x175), (.str x175 (nat_lit 215)), (.ref (nat_lit 36))⟩] (nat_lit 5)), #[]⟩
noncomputable def o25_1 (P : Params) : Obj := ⟨(.type "tuple"), none, (.seq #[] (nat_lit 0)), #[]⟩
noncomputable def o26_1 (P : Params) : Obj := ⟨.none, none, (.fields #[(.int (.ofNat (nat_lit 7)) (nat_lit 0)), (.int (.ofNat (nat_lit 4)) (nat_lit 0)), (.ref (nat_lit 34))]), #[]⟩
noncomputable def o27_1 (P : Params) : Obj := ⟨(.type "code"), none, (.fields #[(.str x170 (nat_lit 198)), (.str x170 (nat_lit 199)), (.str x164 (nat_lit 200)), (.int (.ofNat (nat_lit 5)) (nat_lit 0)), (.int (.ofNat (nat_lit 0)) (nat_lit 0)), (.int (.ofNat (nat_lit 0)) (nat_lit 0)), (.int (.ofNat (nat_lit 0)) (nat_lit 0)), (.int (.ofNat (nat_lit 0)) (nat_lit 0)), (.ref (nat_lit 25)), (.bool false), (.int (.ofNat (nat_lit 181)) (nat_lit 0)), (.ref (nat_lit 26)), .none, .none, .none, .none, (.int (.ofNat (nat_lit 201)) (nat_lit 0)), (.int (.ofNat (nat_lit 5)) (nat_lit 0)), (.str x164 (nat_lit 202))]), #[]⟩
noncomputable def o28_1 (P : Params) : Obj := ⟨(.type "frame"), none, .plain, #[(some (.ref (nat_lit 27))), (some (.ref (nat_lit 3))), (some (.ref (nat_lit 24))), none, (some (.str x169 (nat_lit 194))), none, (some (.ref (nat_lit 0)))]⟩
noncomputable def o29_1 (P : Params) : Obj := ⟨(.type "tuple"), none, (.seq #[] (nat_lit 0)), #[]⟩
noncomputable def o30_1 (P : Params) : Obj := ⟨.none, none, (.fields #[]), #[]⟩
noncomputable def o31_1 (P : Params) : Obj := ⟨(.type "tuple"), none, (.seq #[(.str x176 (nat_lit 211))] (nat_lit 0)), #[]⟩
noncomputable def o32_1 (P : Params) : Obj := ⟨(.type "tuple"), none, (.seq #[] (nat_lit 0)), #[]⟩
noncomputable def o33_1 (P : Params) : Obj := ⟨.none, none, (.func ⟨x174, x177, L2.defArgs (L2.inClass (ht 2) 0), .stmts (L2.defBody (L2.inClass (ht 2) 0)), L2.defScope (L2.inClass (ht 2) 0), (nat_lit 0), [], .none, .none, .none, .none, none, .none, .none, (nat_lit 0)⟩), #[]⟩
noncomputable def o34_1 (P : Params) : Obj := ⟨(.type "code"), none, (.fields #[(.str x174 (nat_lit 208)), (.str x177 (nat_lit 209)), (.str x164 (nat_lit 210)), (.int (.ofNat (nat_lit 7)) (nat_lit 0)), (.int (.ofNat (nat_lit 1)) (nat_lit 0)), (.int (.ofNat (nat_lit 0)) (nat_lit 0)), (.int (.ofNat (nat_lit 0)) (nat_lit 0)), (.int (.ofNat (nat_lit 3)) (nat_lit 0)), (.ref (nat_lit 29)), (.bool true), (.int (.ofNat (nat_lit 181)) (nat_lit 0)), (.ref (nat_lit 30)), .none, (.ref (nat_lit 31)), (.ref (nat_lit 32)), (.ref (nat_lit 33)), (.int (.ofNat (nat_lit 212)) (nat_lit 0)), (.int (.ofNat (nat_lit 7)) (nat_lit 0)), (.str x164 (nat_lit 213))]), #[]⟩
noncomputable def o35_1 (P : Params) : Obj := ⟨(.type "function"), none, (.func ⟨x174, x177, L2.defArgs (L2.inClass (ht 2) 0), .stmts (L2.defBody (L2.inClass (ht 2) 0)), L2.defScope (L2.inClass (ht 2) 0), (nat_lit 3), [], .none, .none, .none, (.str x169 (nat_lit 194)), none, (.ref (nat_lit 34)), .none, (nat_lit 0)⟩), #[]⟩
noncomputable def o36_1 (P : Params) : Obj := ⟨(.type "tuple"), none, (.seq #[] (nat_lit 0)), #[]⟩
noncomputable def o37_1 (P : Params) : Obj := ⟨(.type "dict"), none, (.dict #[⟨(PyData.keyHash P x171), (.str x171 (nat_lit 203)), (.str x169 (nat_lit 194))⟩, ⟨(PyData.keyHash P x173), (.str x173 (nat_lit 207)), (.int (.ofNat (nat_lit 5)) (nat_lit 206))⟩, ⟨(PyData.keyHash P x174), (.str x174 (nat_lit 214)), (.ref (nat_lit 35))⟩, ⟨(PyData.keyHash P x175), (.str x175 (nat_lit 215)), (.ref (nat_lit 36))⟩, ⟨(PyData.keyHash P x178), (.str x178 (nat_lit 217)), (.ref (nat_lit 39))⟩, ⟨(PyData.keyHash P x2), (.str x2 (nat_lit 218)), .none⟩] (nat_lit 3)), #[]⟩
noncomputable def o38_1 (P : Params) : Obj := ⟨(.type "type"), none, (.cls ⟨x170, [(.type "ValueError")], [(.ref (nat_lit 38)), (.type "ValueError"), (.type "Exception"), (.type "BaseException"), (.type "object")], (nat_lit 37), x170, true, [], [], false, none, false⟩), #[(some (.ref (nat_lit 22))), none, (some (.str x170 (nat_lit 196))), (some (.str x170 (nat_lit 204))), (some (.builtin "ValueError.__new__")), (some (.bool true))]⟩
noncomputable def o39_1 (P : Params) : Obj := ⟨(.type "getset_descriptor"), none, (.fields #[(.str x178 (nat_lit 216)), (.ref (nat_lit 38)), (.builtin "ExceptionGroup.__weakref__"), .none]), #[]⟩
noncomputable def o40_1 (P : Params) : Obj := ⟨(.type "super"), none, (.fields #[(.ref (nat_lit 38)), (.ref (nat_lit 38)), (.ref (nat_lit 38))]), #[]⟩
noncomputable def o41_1 (P : Params) : Obj := ⟨(.type "builtin_function_or_method"), none, (.fields #[(.builtin "object.__init_subclass__"), (.ref (nat_lit 38))]), #[]⟩
noncomputable def g1 : List Stmt := [ht 0, ht 1, ht 2]
noncomputable def T1 (P : Params) : BT := ((((((((((((((((((((((((((((((Tb P).ins (nat_lit 3) (o3_1 P)).ins (nat_lit 12) (o12_1 P)).ins (nat_lit 15) (o15_1 P)).ins (nat_lit 16) (o16_1 P)).ins (nat_lit 17) (o17_1 P)).ins (nat_lit 18) (o18_1 P)).ins (nat_lit 19) (o19_1 P)).ins (nat_lit 20) (o20_1 P)).ins (nat_lit 21) (o21_1 P)).ins (nat_lit 22) (o22_1 P)).ins (nat_lit 23) (o23_1 P)).ins (nat_lit 24) (o24_1 P)).ins (nat_lit 25) (o25_1 P)).ins (nat_lit 26) (o26_1 P)).ins (nat_lit 27) (o27_1 P)).ins (nat_lit 28) (o28_1 P)).ins (nat_lit 29) (o29_1 P)).ins (nat_lit 30) (o30_1 P)).ins (nat_lit 31) (o31_1 P)).ins (nat_lit 32) (o32_1 P)).ins (nat_lit 33) (o33_1 P)).ins (nat_lit 34) (o34_1 P)).ins (nat_lit 35) (o35_1 P)).ins (nat_lit 36) (o36_1 P)).ins (nat_lit 37) (o37_1 P)).ins (nat_lit 38) (o38_1 P)).ins (nat_lit 39) (o39_1 P)).ins (nat_lit 40) (o40_1 P)).ins (nat_lit 41) (o41_1 P))
noncomputable def lf1 : Life := ⟨[], [], [], (nat_lit 0), [], [], false, #[], [], (nat_lit 0), false, false, false, (.ofNat (nat_lit 0)), [(.ofNat (nat_lit 2000)), (.ofNat (nat_lit 10)), (.ofNat (nat_lit 10))], false, (nat_lit 0), true, [], [], (nat_lit 0), false⟩
noncomputable abbrev S1 (w : World) (os : OsState) : SharedT := ⟨T1 w.params, nat_lit 42, lf1, Array.mk [], ⟨(nat_lit 0), (nat_lit 0), (nat_lit 0), (nat_lit 0)⟩, nat_lit 221, os⟩
noncomputable def q1 (w : World) : (OsState → Option (Flow × SharedT × Code × Pos)) × (OsState → Option (Flow × SharedT × Code × Pos)) := (fun os => segRunT treeTable pw w (nat_lit 11) (some (.ref (nat_lit 6))) (nat_lit 1) (nat_lit 255) (Sb w os) (piecesOf g1 hE hC ⟨(nat_lit 0), (nat_lit 0), (nat_lit 0), (nat_lit 0)⟩ hB), fun os => some (Flow.next, S1 w os, hC, ⟨(nat_lit 5), (nat_lit 0), (nat_lit 8), (nat_lit 16)⟩))
theorem q1_eq : HD.seg pw (nat_lit 11) (some (.ref (nat_lit 6))) (nat_lit 255) Sb S1 g1 hE hC ⟨(nat_lit 0), (nat_lit 0), (nat_lit 0), (nat_lit 0)⟩ ⟨(nat_lit 5), (nat_lit 0), (nat_lit 8), (nat_lit 16)⟩ hB = q1 := by kernel_rfl
name_quick YK401 for q1 by q1_eq
theorem i1 (w : World) : (Fast.YK401 w).1 = (Fast.YK401 w).2 := by kernel_rfl
theorem h1 : HD.Ok (HD.seg pw (nat_lit 11) (some (.ref (nat_lit 6))) (nat_lit 255) Sb S1 g1 hE hC ⟨(nat_lit 0), (nat_lit 0), (nat_lit 0), (nat_lit 0)⟩ ⟨(nat_lit 5), (nat_lit 0), (nat_lit 8), (nat_lit 16)⟩ hB) := HD.by1 Fast.YK401_eq i1
noncomputable def o3_2 (P : Params) : Obj := ⟨(.type "dict"), none, (.dict #[⟨(PyData.keyHash P x0), (.str x0 (nat_lit 165)), (.str x169 (nat_lit 194))⟩, ⟨(PyData.keyHash P x2), (.str x2 (nat_lit 166)), .none⟩, ⟨(PyData.keyHash P x3), (.str x3 (nat_lit 167)), .none⟩, ⟨(PyData.keyHash P x4), (.str x4 (nat_lit 168)), (.builtin "__main__.__loader__#opaque")⟩, ⟨(PyData.keyHash P x5), (.str x5 (nat_lit 169)), .none⟩, ⟨(PyData.keyHash P x161), (.str x161 (nat_lit 170)), (.ref (nat_lit 6))⟩, ⟨(PyData.keyHash P x162), (.str x162 (nat_lit 171)), (.ref (nat_lit 4))⟩, ⟨(PyData.keyHash P x163), (.str x163 (nat_lit 173)), (.str x164 (nat_lit 172))⟩, ⟨(PyData.keyHash P x165), (.str x165 (nat_lit 174)), .none⟩, ⟨(PyData.keyHash P x167), (.str x167 (nat_lit 193)), (.ref (nat_lit 21))⟩, ⟨(PyData.keyHash P x170), (.str x170 (nat_lit 220)), (.ref (nat_lit 38))⟩, ⟨(PyData.keyHash P x179), (.str x179 (nat_lit 243)), (.ref (nat_lit 58))⟩] (nat_lit 12)), #[]⟩
noncomputable def o12_2 (P : Params) : Obj := ⟨.none, none, (.fields #[(.int (.ofNat (nat_lit 1)) (nat_lit 0)), (.int (.ofNat (nat_lit 0)) (nat_lit 0)), (.ref (nat_lit 20)), (.int (.ofNat (nat_lit 5)) (nat_lit 0)), (.int (.ofNat (nat_lit 0)) (nat_lit 0)), (.ref (nat_lit 27)), (.int (.ofNat (nat_lit 9)) (nat_lit 0)), (.int (.ofNat (nat_lit 0)) (nat_lit 0)), (.ref (nat_lit 47))]), #[]⟩
noncomputable def o38_2 (P : Params) : Obj := ⟨(.type "type"), none, (.cls ⟨x170, [(.type "ValueError")], [(.ref (nat_lit 38)), (.type "ValueError"), (.type "Exception"), (.type "BaseException"), (.type "object")], (nat_lit 37), x170, true, [], [(.ref (nat_lit 58))], false, none, false⟩), #[(some (.ref (nat_lit 22))), none, (some (.str x170 (nat_lit 196))), (some (.str x170 (nat_lit 204))), (some (.builtin "ValueError.__new__")), (some (.bool true))]⟩
noncomputable def o42_2 (P : Params) : Obj := ⟨(.type "tuple"), none, (.seq #[(.ref (nat_lit 38))] (nat_lit 0)), #[]⟩
noncomputable def o43_2 (P : Params) : Obj := ⟨(.type "builtin_function_or_method"), none, (.fields #[(.builtin "type.__prepare__"), (.type "type")]), #[]⟩
noncomputable def o44_2 (P : Params) : Obj := ⟨(.type "dict"), none, (.dict #[⟨(PyData.keyHash P x171), (.str x171 (nat_lit 228)), (.str x169 (nat_lit 194))⟩, ⟨(PyData.keyHash P x172), (.str x172 (nat_lit 230)), (.str x179 (nat_lit 229))⟩, ⟨(PyData.keyHash P x173), (.str x173 (nat_lit 232)), (.int (.ofNat (nat_lit 9)) (nat_lit 231))⟩, ⟨(PyData.keyHash P x174), (.str x174 (nat_lit 239)), (.ref (nat_lit 55))⟩, ⟨(PyData.keyHash P x175), (.str x175 (nat_lit 240)), (.ref (nat_lit 56))⟩] (nat_lit 5)), #[]⟩
noncomputable def o45_2 (P : Params) : Obj := ⟨(.type "tuple"), none, (.seq #[] (nat_lit 0)), #[]⟩
noncomputable def o46_2 (P : Params) : Obj := ⟨.none, none, (.fields #[(.int (.ofNat (nat_lit 11)) (nat_lit 0)), (.int (.ofNat (nat_lit 4)) (nat_lit 0)), (.ref (nat_lit 54))]), #[]⟩
noncomputable def o47_2 (P : Params) : Obj := ⟨(.type "code"), none, (.fields #[(.str x179 (nat_lit 223)), (.str x179 (nat_lit 224)), (.str x164 (nat_lit 225)), (.int (.ofNat (nat_lit 9)) (nat_lit 0)), (.int (.ofNat (nat_lit 0)) (nat_lit 0)), (.int (.ofNat (nat_lit 0)) (nat_lit 0)), (.int (.ofNat (nat_lit 0)) (nat_lit 0)), (.int (.ofNat (nat_lit 0)) (nat_lit 0)), (.ref (nat_lit 45)), (.bool false), (.int (.ofNat (nat_lit 181)) (nat_lit 0)), (.ref (nat_lit 46)), .none, .none, .none, .none, (.int (.ofNat (nat_lit 226)) (nat_lit 0)), (.int (.ofNat (nat_lit 9)) (nat_lit 0)), (.str x164 (nat_lit 227))]), #[]⟩
noncomputable def o48_2 (P : Params) : Obj := ⟨(.type "frame"), none, .plain, #[(some (.ref (nat_lit 47))), (some (.ref (nat_lit 3))), (some (.ref (nat_lit 44))), none, (some (.str x169 (nat_lit 194))), none, (some (.ref (nat_lit 0)))]⟩
noncomputable def o49_2 (P : Params) : Obj := ⟨(.type "tuple"), none, (.seq #[] (nat_lit 0)), #[]⟩
noncomputable def o50_2 (P : Params) : Obj := ⟨.none, none, (.fields #[]), #[]⟩
noncomputable def o51_2 (P : Params) : Obj := ⟨(.type "tuple"), none, (.seq #[(.str x176 (nat_lit 236))] (nat_lit 0)), #[]⟩
noncomputable def o52_2 (P : Params) : Obj := ⟨(.type "tuple"), none, (.seq #[] (nat_lit 0)), #[]⟩
noncomputable def o53_2 (P : Params) : Obj := ⟨.none, none, (.func ⟨x174, x180, L2.defArgs (L2.inClass (ht 3) 0), .stmts (L2.defBody (L2.inClass (ht 3) 0)), L2.defScope (L2.inClass (ht 3) 0), (nat_lit 0), [], .none, .none, .none, .none, none, .none, .none, (nat_lit 0)⟩), #[]⟩
noncomputable def o54_2 (P : Params) : Obj := ⟨(.type "code"), none, (.fields #[(.str x174 (nat_lit 233)), (.str x180 (nat_lit 234)), (.str x164 (nat_lit 235)), (.int (.ofNat (nat_lit 11)) (nat_lit 0)), (.int (.ofNat (nat_lit 1)) (nat_lit 0)), (.int (.ofNat (nat_lit 0)) (nat_lit 0)), (.int (.ofNat (nat_lit 0)) (nat_lit 0)), (.int (.ofNat (nat_lit 3)) (nat_lit 0)), (.ref (nat_lit 49)), (.bool true), (.int (.ofNat (nat_lit 181)) (nat_lit 0)), (.ref (nat_lit 50)), .none, (.ref (nat_lit 51)), (.ref (nat_lit 52)), (.ref (nat_lit 53)), (.int (.ofNat (nat_lit 237)) (nat_lit 0)), (.int (.ofNat (nat_lit 11)) (nat_lit 0)), (.str x164 (nat_lit 238))]), #[]⟩
noncomputable def o55_2 (P : Params) : Obj := ⟨(.type "function"), none, (.func ⟨x174, x180, L2.defArgs (L2.inClass (ht 3) 0), .stmts (L2.defBody (L2.inClass (ht 3) 0)), L2.defScope (L2.inClass (ht 3) 0), (nat_lit 3), [], .none, .none, .none, (.str x169 (nat_lit 194)), none, (.ref (nat_lit 54)), .none, (nat_lit 0)⟩), #[]⟩
noncomputable def o56_2 (P : Params) : Obj := ⟨(.type "tuple"), none, (.seq #[] (nat_lit 0)), #[]⟩
noncomputable def o57_2 (P : Params) : Obj := ⟨(.type "dict"), none, (.dict #[⟨(PyData.keyHash P x171), (.str x171 (nat_lit 228)), (.str x169 (nat_lit 194))⟩, ⟨(PyData.keyHash P x173), (.str x173 (nat_lit 232)), (.int (.ofNat (nat_lit 9)) (nat_lit 231))⟩, ⟨(PyData.keyHash P x174), (.str x174 (nat_lit 239)), (.ref (nat_lit 55))⟩, ⟨(PyData.keyHash P x175), (.str x175 (nat_lit 240)), (.ref (nat_lit 56))⟩, ⟨(PyData.keyHash P x2), (.str x2 (nat_lit 241)), .none⟩] (nat_lit 2)), #[]⟩
noncomputable def o58_2 (P : Params) : Obj := ⟨(.type "type"), none, (.cls ⟨x179, [(.ref (nat_lit 38))], [(.ref (nat_lit 58)), (.ref (nat_lit 38)), (.type "ValueError"), (.type "Exception"), (.type "BaseException"), (.type "object")], (nat_lit 57), x179, true, [], [], false, none, false⟩), #[(some (.ref (nat_lit 42))), none, (some (.str x179 (nat_lit 221))), (some (.str x179 (nat_lit 229))), (some (.builtin "ValueError.__new__")), (some (.bool true))]⟩
noncomputable def o59_2 (P : Params) : Obj := ⟨(.type "super"), none, (.fields #[(.ref (nat_lit 58)), (.ref (nat_lit 58)), (.ref (nat_lit 58))]), #[]⟩
noncomputable def o60_2 (P : Params) : Obj := ⟨(.type "builtin_function_or_method"), none, (.fields #[(.builtin "object.__init_subclass__"), (.ref (nat_lit 58))]), #[]⟩
noncomputable def g2 : List Stmt := [ht 3]
noncomputable def T2 (P : Params) : BT := (((((((((((((((((((((((T1 P).ins (nat_lit 3) (o3_2 P)).ins (nat_lit 12) (o12_2 P)).ins (nat_lit 38) (o38_2 P)).ins (nat_lit 42) (o42_2 P)).ins (nat_lit 43) (o43_2 P)).ins (nat_lit 44) (o44_2 P)).ins (nat_lit 45) (o45_2 P)).ins (nat_lit 46) (o46_2 P)).ins (nat_lit 47) (o47_2 P)).ins (nat_lit 48) (o48_2 P)).ins (nat_lit 49) (o49_2 P)).ins (nat_lit 50) (o50_2 P)).ins (nat_lit 51) (o51_2 P)).ins (nat_lit 52) (o52_2 P)).ins (nat_lit 53) (o53_2 P)).ins (nat_lit 54) (o54_2 P)).ins (nat_lit 55) (o55_2 P)).ins (nat_lit 56) (o56_2 P)).ins (nat_lit 57) (o57_2 P)).ins (nat_lit 58) (o58_2 P)).ins (nat_lit 59) (o59_2 P)).ins (nat_lit 60) (o60_2 P))
noncomputable def lf2 : Life := ⟨[], [], [], (nat_lit 0), [], [], false, #[], [], (nat_lit 0), false, false, false, (.ofNat (nat_lit 0)), [(.ofNat (nat_lit 2000)), (.ofNat (nat_lit 10)), (.ofNat (nat_lit 10))], false, (nat_lit 0), true, [], [], (nat_lit 0), false⟩
noncomputable abbrev S2 (w : World) (os : OsState) : SharedT := ⟨T2 w.params, nat_lit 61, lf2, Array.mk [], ⟨(nat_lit 0), (nat_lit 0), (nat_lit 0), (nat_lit 0)⟩, nat_lit 244, os⟩
noncomputable def q2 (w : World) : (OsState → Option (Flow × SharedT × Code × Pos)) × (OsState → Option (Flow × SharedT × Code × Pos)) := (fun os => segRunT treeTable pw w (nat_lit 11) (some (.ref (nat_lit 6))) (nat_lit 1) (nat_lit 244) (S1 w os) (piecesOf g2 hE hC ⟨(nat_lit 5), (nat_lit 0), (nat_lit 8), (nat_lit 16)⟩ hB), fun os => some (Flow.next, S2 w os, hC, ⟨(nat_lit 9), (nat_lit 0), (nat_lit 12), (nat_lit 16)⟩))
theorem q2_eq : HD.seg pw (nat_lit 11) (some (.ref (nat_lit 6))) (nat_lit 244) S1 S2 g2 hE hC ⟨(nat_lit 5), (nat_lit 0), (nat_lit 8), (nat_lit 16)⟩ ⟨(nat_lit 9), (nat_lit 0), (nat_lit 12), (nat_lit 16)⟩ hB = q2 := by kernel_rfl
name_quick YK402 for q2 by q2_eq
theorem i2 (w : World) : (Fast.YK402 w).1 = (Fast.YK402 w).2 := by kernel_rfl
theorem h2 : HD.Ok (HD.seg pw (nat_lit 11) (some (.ref (nat_lit 6))) (nat_lit 244) S1 S2 g2 hE hC ⟨(nat_lit 5), (nat_lit 0), (nat_lit 8), (nat_lit 16)⟩ ⟨(nat_lit 9), (nat_lit 0), (nat_lit 12), (nat_lit 16)⟩ hB) := HD.by1 Fast.YK402_eq i2
noncomputable def o3_3 (P : Params) : Obj := ⟨(.type "dict"), none, (.dict #[⟨(PyData.keyHash P x0), (.str x0 (nat_lit 165)), (.str x169 (nat_lit 194))⟩, ⟨(PyData.keyHash P x2), (.str x2 (nat_lit 166)), .none⟩, ⟨(PyData.keyHash P x3), (.str x3 (nat_lit 167)), .none⟩, ⟨(PyData.keyHash P x4), (.str x4 (nat_lit 168)), (.builtin "__main__.__loader__#opaque")⟩, ⟨(PyData.keyHash P x5), (.str x5 (nat_lit 169)), .none⟩, ⟨(PyData.keyHash P x161), (.str x161 (nat_lit 170)), (.ref (nat_lit 6))⟩, ⟨(PyData.keyHash P x162), (.str x162 (nat_lit 171)), (.ref (nat_lit 4))⟩, ⟨(PyData.keyHash P x163), (.str x163 (nat_lit 173)), (.str x164 (nat_lit 172))⟩, ⟨(PyData.keyHash P x165), (.str x165 (nat_lit 174)), .none⟩, ⟨(PyData.keyHash P x167), (.str x167 (nat_lit 193)), (.ref (nat_lit 21))⟩, ⟨(PyData.keyHash P x170), (.str x170 (nat_lit 220)), (.ref (nat_lit 38))⟩, ⟨(PyData.keyHash P x179), (.str x179 (nat_lit 243)), (.ref (nat_lit 58))⟩, ⟨(PyData.keyHash P x181), (.str x181 (nat_lit 266)), (.ref (nat_lit 77))⟩] (nat_lit 13)), #[]⟩
noncomputable def o12_3 (P : Params) : Obj := ⟨.none, none, (.fields #[(.int (.ofNat (nat_lit 1)) (nat_lit 0)), (.int (.ofNat (nat_lit 0)) (nat_lit 0)), (.ref (nat_lit 20)), (.int (.ofNat (nat_lit 5)) (nat_lit 0)), (.int (.ofNat (nat_lit 0)) (nat_lit 0)), (.ref (nat_lit 27)), (.int (.ofNat (nat_lit 9)) (nat_lit 0)), (.int (.ofNat (nat_lit 0)) (nat_lit 0)), (.ref (nat_lit 47)), (.int (.ofNat (nat_lit 13)) (nat_lit 0)), (.int (.ofNat (nat_lit 0)) (nat_lit 0)), (.ref (nat_lit 66))]), #[]⟩
noncomputable def o38_3 (P : Params) : Obj := ⟨(.type "type"), none, (.cls ⟨x170, [(.type "ValueError")], [(.ref (nat_lit 38)), (.type "ValueError"), (.type "Exception"), (.type "BaseException"), (.type "object")], (nat_lit 37), x170, true, [], [(.ref (nat_lit 58)), (.ref (nat_lit 77))], false, none, false⟩), #[(some (.ref (nat_lit 22))), none, (some (.str x170 (nat_lit 196))), (some (.str x170 (nat_lit 204))), (some (.builtin "ValueError.__new__")), (some (.bool true))]⟩
noncomputable def o61_3 (P : Params) : Obj := ⟨(.type "tuple"), none, (.seq #[(.ref (nat_lit 38))] (nat_lit 0)), #[]⟩
noncomputable def o62_3 (P : Params) : Obj := ⟨(.type "builtin_function_or_method"), none, (.fields #[(.builtin "type.__prepare__"), (.type "type")]), #[]⟩
noncomputable def o63_3 (P : Params) : Obj := ⟨(.type "dict"), none, (.dict #[⟨(PyData.keyHash P x171), (.str x171 (nat_lit 251)), (.str x169 (nat_lit 194))⟩, ⟨(PyData.keyHash P x172), (.str x172 (nat_lit 253)), (.str x181 (nat_lit 252))⟩, ⟨(PyData.keyHash P x173), (.str x173 (nat_lit 255)), (.int (.ofNat (nat_lit 13)) (nat_lit 254))⟩, ⟨(PyData.keyHash P x174), (.str x174 (nat_lit 262)), (.ref (nat_lit 74))⟩, ⟨(PyData.keyHash P x175), (.str x175 (nat_lit 263)), (.ref (nat_lit 75))⟩] (nat_lit 5)), #[]⟩
noncomputable def o64_3 (P : Params) : Obj := ⟨(.type "tuple"), none, (.seq #[] (nat_lit 0)), #[]⟩
noncomputable def o65_3 (P : Params) : Obj := ⟨.none, none, (.fields #[(.int (.ofNat (nat_lit 15)) (nat_lit 0)), (.int (.ofNat (nat_lit 4)) (nat_lit 0)), (.ref (nat_lit 73))]), #[]⟩
noncomputable def o66_3 (P : Params) : Obj := ⟨(.type "code"), none, (.fields #[(.str x181 (nat_lit 246)), (.str x181 (nat_lit 247)), (.str x164 (nat_lit 248)), (.int (.ofNat (nat_lit 13)) (nat_lit 0)), (.int (.ofNat (nat_lit 0)) (nat_lit 0)), (.int (.ofNat (nat_lit 0)) (nat_lit 0)), (.int (.ofNat (nat_lit 0)) (nat_lit 0)), (.int (.ofNat (nat_lit 0)) (nat_lit 0)), (.ref (nat_lit 64)), (.bool false), (.int (.ofNat (nat_lit 181)) (nat_lit 0)), (.ref (nat_lit 65)), .none, .none, .none, .none, (.int (.ofNat (nat_lit 249)) (nat_lit 0)), (.int (.ofNat (nat_lit 13)) (nat_lit 0)), (.str x164 (nat_lit 250))]), #[]⟩
noncomputable def o67_3 (P : Params) : Obj := ⟨(.type "frame"), none, .plain, #[(some (.ref (nat_lit 66))), (some (.ref (nat_lit 3))), (some (.ref (nat_lit 63))), none, (some (.str x169 (nat_lit 194))), none, (some (.ref (nat_lit 0)))]⟩
noncomputable def o68_3 (P : Params) : Obj := ⟨(.type "tuple"), none, (.seq #[] (nat_lit 0)), #[]⟩
noncomputable def o69_3 (P : Params) : Obj := ⟨.none, none, (.fields #[]), #[]⟩
noncomputable def o70_3 (P : Params) : Obj := ⟨(.type "tuple"), none, (.seq #[(.str x176 (nat_lit 259))] (nat_lit 0)), #[]⟩
noncomputable def o71_3 (P : Params) : Obj := ⟨(.type "tuple"), none, (.seq #[] (nat_lit 0)), #[]⟩
noncomputable def o72_3 (P : Params) : Obj := ⟨.none, none, (.func ⟨x174, x182, L2.defArgs (L2.inClass (ht 4) 0), .stmts (L2.defBody (L2.inClass (ht 4) 0)), L2.defScope (L2.inClass (ht 4) 0), (nat_lit 0), [], .none, .none, .none, .none, none, .none, .none, (nat_lit 0)⟩), #[]⟩
noncomputable def o73_3 (P : Params) : Obj := ⟨(.type "code"), none, (.fields #[(.str x174 (nat_lit 256)), (.str x182 (nat_lit 257)), (.str x164 (nat_lit 258)), (.int (.ofNat (nat_lit 15)) (nat_lit 0)), (.int (.ofNat (nat_lit 1)) (nat_lit 0)), (.int (.ofNat (nat_lit 0)) (nat_lit 0)), (.int (.ofNat (nat_lit 0)) (nat_lit 0)), (.int (.ofNat (nat_lit 3)) (nat_lit 0)), (.ref (nat_lit 68)), (.bool true), (.int (.ofNat (nat_lit 181)) (nat_lit 0)), (.ref (nat_lit 69)), .none, (.ref (nat_lit 70)), (.ref (nat_lit 71)), (.ref (nat_lit 72)), (.int (.ofNat (nat_lit 260)) (nat_lit 0)), (.int (.ofNat (nat_lit 15)) (nat_lit 0)), (.str x164 (nat_lit 261))]), #[]⟩
noncomputable def o74_3 (P : Params) : Obj := ⟨(.type "function"), none, (.func ⟨x174, x182, L2.defArgs (L2.inClass (ht 4) 0), .stmts (L2.defBody (L2.inClass (ht 4) 0)), L2.defScope (L2.inClass (ht 4) 0), (nat_lit 3), [], .none, .none, .none, (.str x169 (nat_lit 194)), none, (.ref (nat_lit 73)), .none, (nat_lit 0)⟩), #[]⟩
noncomputable def o75_3 (P : Params) : Obj := ⟨(.type "tuple"), none, (.seq #[] (nat_lit 0)), #[]⟩
noncomputable def o76_3 (P : Params) : Obj := ⟨(.type "dict"), none, (.dict #[⟨(PyData.keyHash P x171), (.str x171 (nat_lit 251)), (.str x169 (nat_lit 194))⟩, ⟨(PyData.keyHash P x173), (.str x173 (nat_lit 255)), (.int (.ofNat (nat_lit 13)) (nat_lit 254))⟩, ⟨(PyData.keyHash P x174), (.str x174 (nat_lit 262)), (.ref (nat_lit 74))⟩, ⟨(PyData.keyHash P x175), (.str x175 (nat_lit 263)), (.ref (nat_lit 75))⟩, ⟨(PyData.keyHash P x2), (.str x2 (nat_lit 264)), .none⟩] (nat_lit 2)), #[]⟩
noncomputable def o77_3 (P : Params) : Obj := ⟨(.type "type"), none, (.cls ⟨x181, [(.ref (nat_lit 38))], [(.ref (nat_lit 77)), (.ref (nat_lit 38)), (.type "ValueError"), (.type "Exception"), (.type "BaseException"), (.type "object")], (nat_lit 76), x181, true, [], [], false, none, false⟩), #[(some (.ref (nat_lit 61))), none, (some (.str x181 (nat_lit 244))), (some (.str x181 (nat_lit 252))), (some (.builtin "ValueError.__new__")), (some (.bool true))]⟩
noncomputable def o78_3 (P : Params) : Obj := ⟨(.type "super"), none, (.fields #[(.ref (nat_lit 77)), (.ref (nat_lit 77)), (.ref (nat_lit 77))]), #[]⟩
noncomputable def o79_3 (P : Params) : Obj := ⟨(.type "builtin_function_or_method"), none, (.fields #[(.builtin "object.__init_subclass__"), (.ref (nat_lit 77))]), #[]⟩
noncomputable def g3 : List Stmt := [ht 4]
noncomputable def T3 (P : Params) : BT := (((((((((((((((((((((((T2 P).ins (nat_lit 3) (o3_3 P)).ins (nat_lit 12) (o12_3 P)).ins (nat_lit 38) (o38_3 P)).ins (nat_lit 61) (o61_3 P)).ins (nat_lit 62) (o62_3 P)).ins (nat_lit 63) (o63_3 P)).ins (nat_lit 64) (o64_3 P)).ins (nat_lit 65) (o65_3 P)).ins (nat_lit 66) (o66_3 P)).ins (nat_lit 67) (o67_3 P)).ins (nat_lit 68) (o68_3 P)).ins (nat_lit 69) (o69_3 P)).ins (nat_lit 70) (o70_3 P)).ins (nat_lit 71) (o71_3 P)).ins (nat_lit 72) (o72_3 P)).ins (nat_lit 73) (o73_3 P)).ins (nat_lit 74) (o74_3 P)).ins (nat_lit 75) (o75_3 P)).ins (nat_lit 76) (o76_3 P)).ins (nat_lit 77) (o77_3 P)).ins (nat_lit 78) (o78_3 P)).ins (nat_lit 79) (o79_3 P))
noncomputable def lf3 : Life := ⟨[], [], [], (nat_lit 0), [], [], false, #[], [], (nat_lit 0), false, false, false, (.ofNat (nat_lit 0)), [(.ofNat (nat_lit 2000)), (.ofNat (nat_lit 10)), (.ofNat (nat_lit 10))], false, (nat_lit 0), true, [], [], (nat_lit 0), false⟩
noncomputable abbrev S3 (w : World) (os : OsState) : SharedT := ⟨T3 w.params, nat_lit 80, lf3, Array.mk [], ⟨(nat_lit 0), (nat_lit 0), (nat_lit 0), (nat_lit 0)⟩, nat_lit 267, os⟩
noncomputable def q3 (w : World) : (OsState → Option (Flow × SharedT × Code × Pos)) × (OsState → Option (Flow × SharedT × Code × Pos)) := (fun os => segRunT treeTable pw w (nat_lit 11) (some (.ref (nat_lit 6))) (nat_lit 1) (nat_lit 244) (S2 w os) (piecesOf g3 hE hC ⟨(nat_lit 9), (nat_lit 0), (nat_lit 12), (nat_lit 16)⟩ hB), fun os => some (Flow.next, S3 w os, hC, ⟨(nat_lit 13), (nat_lit 0), (nat_lit 16), (nat_lit 16)⟩))
theorem q3_eq : HD.seg pw (nat_lit 11) (some (.ref (nat_lit 6))) (nat_lit 244) S2 S3 g3 hE hC ⟨(nat_lit 9), (nat_lit 0), (nat_lit 12), (nat_lit 16)⟩ ⟨(nat_lit 13), (nat_lit 0), (nat_lit 16), (nat_lit 16)⟩ hB = q3 := by kernel_rfl
name_quick YK403 for q3 by q3_eq
theorem i3 (w : World) : (Fast.YK403 w).1 = (Fast.YK403 w).2 := by kernel_rfl
theorem h3 : HD.Ok (HD.seg pw (nat_lit 11) (some (.ref (nat_lit 6))) (nat_lit 244) S2 S3 g3 hE hC ⟨(nat_lit 9), (nat_lit 0), (nat_lit 12), (nat_lit 16)⟩ ⟨(nat_lit 13), (nat_lit 0), (nat_lit 16), (nat_lit 16)⟩ hB) := HD.by1 Fast.YK403_eq i3
noncomputable def o3_4 (P : Params) : Obj := ⟨(.type "dict"), none, (.dict #[⟨(PyData.keyHash P x0), (.str x0 (nat_lit 165)), (.str x169 (nat_lit 194))⟩, ⟨(PyData.keyHash P x2), (.str x2 (nat_lit 166)), .none⟩, ⟨(PyData.keyHash P x3), (.str x3 (nat_lit 167)), .none⟩, ⟨(PyData.keyHash P x4), (.str x4 (nat_lit 168)), (.builtin "__main__.__loader__#opaque")⟩, ⟨(PyData.keyHash P x5), (.str x5 (nat_lit 169)), .none⟩, ⟨(PyData.keyHash P x161), (.str x161 (nat_lit 170)), (.ref (nat_lit 6))⟩, ⟨(PyData.keyHash P x162), (.str x162 (nat_lit 171)), (.ref (nat_lit 4))⟩, ⟨(PyData.keyHash P x163), (.str x163 (nat_lit 173)), (.str x164 (nat_lit 172))⟩, ⟨(PyData.keyHash P x165), (.str x165 (nat_lit 174)), .none⟩, ⟨(PyData.keyHash P x167), (.str x167 (nat_lit 193)), (.ref (nat_lit 21))⟩, ⟨(PyData.keyHash P x170), (.str x170 (nat_lit 220)), (.ref (nat_lit 38))⟩, ⟨(PyData.keyHash P x179), (.str x179 (nat_lit 243)), (.ref (nat_lit 58))⟩, ⟨(PyData.keyHash P x181), (.str x181 (nat_lit 266)), (.ref (nat_lit 77))⟩, ⟨(PyData.keyHash P x183), (.str x183 (nat_lit 289)), (.ref (nat_lit 96))⟩] (nat_lit 14)), #[]⟩
noncomputable def o12_4 (P : Params) : Obj := ⟨.none, none, (.fields #[(.int (.ofNat (nat_lit 1)) (nat_lit 0)), (.int (.ofNat (nat_lit 0)) (nat_lit 0)), (.ref (nat_lit 20)), (.int (.ofNat (nat_lit 5)) (nat_lit 0)), (.int (.ofNat (nat_lit 0)) (nat_lit 0)), (.ref (nat_lit 27)), (.int (.ofNat (nat_lit 9)) (nat_lit 0)), (.int (.ofNat (nat_lit 0)) (nat_lit 0)), (.ref (nat_lit 47)), (.int (.ofNat (nat_lit 13)) (nat_lit 0)), (.int (.ofNat (nat_lit 0)) (nat_lit 0)), (.ref (nat_lit 66)), (.int (.ofNat (nat_lit 17)) (nat_lit 0)), (.int (.ofNat (nat_lit 0)) (nat_lit 0)), (.ref (nat_lit 85))]), #[]⟩
noncomputable def o38_4 (P : Params) : Obj := ⟨(.type "type"), none, (.cls ⟨x170, [(.type "ValueError")], [(.ref (nat_lit 38)), (.type "ValueError"), (.type "Exception"), (.type "BaseException"), (.type "object")], (nat_lit 37), x170, true, [], [(.ref (nat_lit 58)), (.ref (nat_lit 77)), (.ref (nat_lit 96))], false, none, false⟩), #[(some (.ref (nat_lit 22))), none, (some (.str x170 (nat_lit 196))), (some (.str x170 (nat_lit 204))), (some (.builtin "ValueError.__new__")), (some (.bool true))]⟩
noncomputable def o80_4 (P : Params) : Obj := ⟨(.type "tuple"), none, (.seq #[(.ref (nat_lit 38))] (nat_lit 0)), #[]⟩
noncomputable def o81_4 (P : Params) : Obj := ⟨(.type "builtin_function_or_method"), none, (.fields #[(.builtin "type.__prepare__"), (.type "type")]), #[]⟩
noncomputable def o82_4 (P : Params) : Obj := ⟨(.type "dict"), none, (.dict #[⟨(PyData.keyHash P x171), (.str x171 (nat_lit 274)), (.str x169 (nat_lit 194))⟩, ⟨(PyData.keyHash P x172), (.str x172 (nat_lit 276)), (.str x183 (nat_lit 275))⟩, ⟨(PyData.keyHash P x173), (.str x173 (nat_lit 278)), (.int (.ofNat (nat_lit 17)) (nat_lit 277))⟩, ⟨(PyData.keyHash P x174), (.str x174 (nat_lit 285)), (.ref (nat_lit 93))⟩, ⟨(PyData.keyHash P x175), (.str x175 (nat_lit 286)), (.ref (nat_lit 94))⟩] (nat_lit 5)), #[]⟩
noncomputable def o83_4 (P : Params) : Obj := ⟨(.type "tuple"), none, (.seq #[] (nat_lit 0)), #[]⟩
noncomputable def o84_4 (P : Params) : Obj := ⟨.none, none, (.fields #[(.int (.ofNat (nat_lit 19)) (nat_lit 0)), (.int (.ofNat (nat_lit 4)) (nat_lit 0)), (.ref (nat_lit 92))]), #[]⟩
noncomputable def o85_4 (P : Params) : Obj := ⟨(.type "code"), none, (.fields #[(.str x183 (nat_lit 269)), (.str x183 (nat_lit 270)), (.str x164 (nat_lit 271)), (.int (.ofNat (nat_lit 17)) (nat_lit 0)), (.int (.ofNat (nat_lit 0)) (nat_lit 0)), (.int (.ofNat (nat_lit 0)) (nat_lit 0)), (.int (.ofNat (nat_lit 0)) (nat_lit 0)), (.int (.ofNat (nat_lit 0)) (nat_lit 0)), (.ref (nat_lit 83)), (.bool false), (.int (.ofNat (nat_lit 181)) (nat_lit 0)), (.ref (nat_lit 84)), .none, .none, .none, .none, (.int (.ofNat (nat_lit 272)) (nat_lit 0)), (.int (.ofNat (nat_lit 17)) (nat_lit 0)), (.str x164 (nat_lit 273))]), #[]⟩
noncomputable def o86_4 (P : Params) : Obj := ⟨(.type "frame"), none, .plain, #[(some (.ref (nat_lit 85))), (some (.ref (nat_lit 3))), (some (.ref (nat_lit 82))), none, (some (.str x169 (nat_lit 194))), none, (some (.ref (nat_lit 0)))]⟩
noncomputable def o87_4 (P : Params) : Obj := ⟨(.type "tuple"), none, (.seq #[] (nat_lit 0)), #[]⟩
noncomputable def o88_4 (P : Params) : Obj := ⟨.none, none, (.fields #[]), #[]⟩
noncomputable def o89_4 (P : Params) : Obj := ⟨(.type "tuple"), none, (.seq #[(.str x176 (nat_lit 282))] (nat_lit 0)), #[]⟩
noncomputable def o90_4 (P : Params) : Obj := ⟨(.type "tuple"), none, (.seq #[] (nat_lit 0)), #[]⟩
noncomputable def o91_4 (P : Params) : Obj := ⟨.none, none, (.func ⟨x174, x184, L2.defArgs (L2.inClass (ht 5) 0), .stmts (L2.defBody (L2.inClass (ht 5) 0)), L2.defScope (L2.inClass (ht 5) 0), (nat_lit 0), [], .none, .none, .none, .none, none, .none, .none, (nat_lit 0)⟩), #[]⟩
noncomputable def o92_4 (P : Params) : Obj := ⟨(.type "code"), none, (.fields #[(.str x174 (nat_lit 279)), (.str x184 (nat_lit 280)), (.str x164 (nat_lit 281)), (.int (.ofNat (nat_lit 19)) (nat_lit 0)), (.int (.ofNat (nat_lit 1)) (nat_lit 0)), (.int (.ofNat (nat_lit 0)) (nat_lit 0)), (.int (.ofNat (nat_lit 0)) (nat_lit 0)), (.int (.ofNat (nat_lit 3)) (nat_lit 0)), (.ref (nat_lit 87)), (.bool true), (.int (.ofNat (nat_lit 181)) (nat_lit 0)), (.ref (nat_lit 88)), .none, (.ref (nat_lit 89)), (.ref (nat_lit 90)), (.ref (nat_lit 91)), (.int (.ofNat (nat_lit 283)) (nat_lit 0)), (.int (.ofNat (nat_lit 19)) (nat_lit 0)), (.str x164 (nat_lit 284))]), #[]⟩
noncomputable def o93_4 (P : Params) : Obj := ⟨(.type "function"), none, (.func ⟨x174, x184, L2.defArgs (L2.inClass (ht 5) 0), .stmts (L2.defBody (L2.inClass (ht 5) 0)), L2.defScope (L2.inClass (ht 5) 0), (nat_lit 3), [], .none, .none, .none, (.str x169 (nat_lit 194)), none, (.ref (nat_lit 92)), .none, (nat_lit 0)⟩), #[]⟩
noncomputable def o94_4 (P : Params) : Obj := ⟨(.type "tuple"), none, (.seq #[] (nat_lit 0)), #[]⟩
noncomputable def o95_4 (P : Params) : Obj := ⟨(.type "dict"), none, (.dict #[⟨(PyData.keyHash P x171), (.str x171 (nat_lit 274)), (.str x169 (nat_lit 194))⟩, ⟨(PyData.keyHash P x173), (.str x173 (nat_lit 278)), (.int (.ofNat (nat_lit 17)) (nat_lit 277))⟩, ⟨(PyData.keyHash P x174), (.str x174 (nat_lit 285)), (.ref (nat_lit 93))⟩, ⟨(PyData.keyHash P x175), (.str x175 (nat_lit 286)), (.ref (nat_lit 94))⟩, ⟨(PyData.keyHash P x2), (.str x2 (nat_lit 287)), .none⟩] (nat_lit 2)), #[]⟩
noncomputable def o96_4 (P : Params) : Obj := ⟨(.type "type"), none, (.cls ⟨x183, [(.ref (nat_lit 38))], [(.ref (nat_lit 96)), (.ref (nat_lit 38)), (.type "ValueError"), (.type "Exception"), (.type "BaseException"), (.type "object")], (nat_lit 95), x183, true, [], [], false, none, false⟩), #[(some (.ref (nat_lit 80))), none, (some (.str x183 (nat_lit 267))), (some (.str x183 (nat_lit 275))), (some (.builtin "ValueError.__new__")), (some (.bool true))]⟩
noncomputable def o97_4 (P : Params) : Obj := ⟨(.type "super"), none, (.fields #[(.ref (nat_lit 96)), (.ref (nat_lit 96)), (.ref (nat_lit 96))]), #[]⟩
noncomputable def o98_4 (P : Params) : Obj := ⟨(.type "builtin_function_or_method"), none, (.fields #[(.builtin "object.__init_subclass__"), (.ref (nat_lit 96))]), #[]⟩
noncomputable def g4 : List Stmt := [ht 5]
noncomputable def T4 (P : Params) : BT := (((((((((((((((((((((((T3 P).ins (nat_lit 3) (o3_4 P)).ins (nat_lit 12) (o12_4 P)).ins (nat_lit 38) (o38_4 P)).ins (nat_lit 80) (o80_4 P)).ins (nat_lit 81) (o81_4 P)).ins (nat_lit 82) (o82_4 P)).ins (nat_lit 83) (o83_4 P)).ins (nat_lit 84) (o84_4 P)).ins (nat_lit 85) (o85_4 P)).ins (nat_lit 86) (o86_4 P)).ins (nat_lit 87) (o87_4 P)).ins (nat_lit 88) (o88_4 P)).ins (nat_lit 89) (o89_4 P)).ins (nat_lit 90) (o90_4 P)).ins (nat_lit 91) (o91_4 P)).ins (nat_lit 92) (o92_4 P)).ins (nat_lit 93) (o93_4 P)).ins (nat_lit 94) (o94_4 P)).ins (nat_lit 95) (o95_4 P)).ins (nat_lit 96) (o96_4 P)).ins (nat_lit 97) (o97_4 P)).ins (nat_lit 98) (o98_4 P))
noncomputable def lf4 : Life := ⟨[], [], [], (nat_lit 0), [], [], false, #[], [], (nat_lit 0), false, false, false, (.ofNat (nat_lit 0)), [(.ofNat (nat_lit 2000)), (.ofNat (nat_lit 10)), (.ofNat (nat_lit 10))], false, (nat_lit 0), true, [], [], (nat_lit 0), false⟩
noncomputable abbrev S4 (w : World) (os : OsState) : SharedT := ⟨T4 w.params, nat_lit 99, lf4, Array.mk [], ⟨(nat_lit 0), (nat_lit 0), (nat_lit 0), (nat_lit 0)⟩, nat_lit 290, os⟩
noncomputable def q4 (w : World) : (OsState → Option (Flow × SharedT × Code × Pos)) × (OsState → Option (Flow × SharedT × Code × Pos)) := (fun os => segRunT treeTable pw w (nat_lit 11) (some (.ref (nat_lit 6))) (nat_lit 1) (nat_lit 244) (S3 w os) (piecesOf g4 hE hC ⟨(nat_lit 13), (nat_lit 0), (nat_lit 16), (nat_lit 16)⟩ hB), fun os => some (Flow.next, S4 w os, hC, ⟨(nat_lit 17), (nat_lit 0), (nat_lit 20), (nat_lit 16)⟩))
theorem q4_eq : HD.seg pw (nat_lit 11) (some (.ref (nat_lit 6))) (nat_lit 244) S3 S4 g4 hE hC ⟨(nat_lit 13), (nat_lit 0), (nat_lit 16), (nat_lit 16)⟩ ⟨(nat_lit 17), (nat_lit 0), (nat_lit 20), (nat_lit 16)⟩ hB = q4 := by kernel_rfl
name_quick YK404 for q4 by q4_eq
theorem i4 (w : World) : (Fast.YK404 w).1 = (Fast.YK404 w).2 := by kernel_rfl
theorem h4 : HD.Ok (HD.seg pw (nat_lit 11) (some (.ref (nat_lit 6))) (nat_lit 244) S3 S4 g4 hE hC ⟨(nat_lit 13), (nat_lit 0), (nat_lit 16), (nat_lit 16)⟩ ⟨(nat_lit 17), (nat_lit 0), (nat_lit 20), (nat_lit 16)⟩ hB) := HD.by1 Fast.YK404_eq i4
noncomputable def o3_5 (P : Params) : Obj := ⟨(.type "dict"), none, (.dict #[⟨(PyData.keyHash P x0), (.str x0 (nat_lit 165)), (.str x169 (nat_lit 194))⟩, ⟨(PyData.keyHash P x2), (.str x2 (nat_lit 166)), .none⟩, ⟨(PyData.keyHash P x3), (.str x3 (nat_lit 167)), .none⟩, ⟨(PyData.keyHash P x4), (.str x4 (nat_lit 168)), (.builtin "__main__.__loader__#opaque")⟩, ⟨(PyData.keyHash P x5), (.str x5 (nat_lit 169)), .none⟩, ⟨(PyData.keyHash P x161), (.str x161 (nat_lit 170)), (.ref (nat_lit 6))⟩, ⟨(PyData.keyHash P x162), (.str x162 (nat_lit 171)), (.ref (nat_lit 4))⟩, ⟨(PyData.keyHash P x163), (.str x163 (nat_lit 173)), (.str x164 (nat_lit 172))⟩, ⟨(PyData.keyHash P x165), (.str x165 (nat_lit 174)), .none⟩, ⟨(PyData.keyHash P x167), (.str x167 (nat_lit 193)), (.ref (nat_lit 21))⟩, ⟨(PyData.keyHash P x170), (.str x170 (nat_lit 220)), (.ref (nat_lit 38))⟩, ⟨(PyData.keyHash P x179), (.str x179 (nat_lit 243)), (.ref (nat_lit 58))⟩, ⟨(PyData.keyHash P x181), (.str x181 (nat_lit 266)), (.ref (nat_lit 77))⟩, ⟨(PyData.keyHash P x183), (.str x183 (nat_lit 289)), (.ref (nat_lit 96))⟩, ⟨(PyData.keyHash P x185), (.str x185 (nat_lit 312)), (.ref (nat_lit 115))⟩] (nat_lit 15)), #[]⟩
noncomputable def o12_5 (P : Params) : Obj := ⟨.none, none, (.fields #[(.int (.ofNat (nat_lit 1)) (nat_lit 0)), (.int (.ofNat (nat_lit 0)) (nat_lit 0)), (.ref (nat_lit 20)), (.int (.ofNat (nat_lit 5)) (nat_lit 0)), (.int (.ofNat (nat_lit 0)) (nat_lit 0)), (.ref (nat_lit 27)), (.int (.ofNat (nat_lit 9)) (nat_lit 0)), (.int (.ofNat (nat_lit 0)) (nat_lit 0)), (.ref (nat_lit 47)), (.int (.ofNat (nat_lit 13)) (nat_lit 0)), (.int (.ofNat (nat_lit 0)) (nat_lit 0)), (.ref (nat_lit 66)), (.int (.ofNat (nat_lit 17)) (nat_lit 0)), (.int (.ofNat (nat_lit 0)) (nat_lit 0)), (.ref (nat_lit 85)), (.int (.ofNat (nat_lit 21)) (nat_lit 0)), (.int (.ofNat (nat_lit 0)) (nat_lit 0)), (.ref (nat_lit 104))]), #[]⟩
noncomputable def o38_5 (P : Params) : Obj := ⟨(.type "type"), none, (.cls ⟨x170, [(.type "ValueError")], [(.ref (nat_lit 38)), (.type "ValueError"), (.type "Exception"), (.type "BaseException"), (.type "object")], (nat_lit 37), x170, true, [], [(.ref (nat_lit 58)), (.ref (nat_lit 77)), (.ref (nat_lit 96)), (.ref (nat_lit 115))], false, none, false⟩), #[(some (.ref (nat_lit 22))), none, (some (.str x170 (nat_lit 196))), (some (.str x170 (nat_lit 204))), (some (.builtin "ValueError.__new__")), (some (.bool true))]⟩
noncomputable def o99_5 (P : Params) : Obj := ⟨(.type "tuple"), none, (.seq #[(.ref (nat_lit 38))] (nat_lit 0)), #[]⟩
noncomputable def o100_5 (P : Params) : Obj := ⟨(.type "builtin_function_or_method"), none, (.fields #[(.builtin "type.__prepare__"), (.type "type")]), #[]⟩
noncomputable def o101_5 (P : Params) : Obj := ⟨(.type "dict"), none, (.dict #[⟨(PyData.keyHash P x171), (.str x171 (nat_lit 297)), (.str x169 (nat_lit 194))⟩, ⟨(PyData.keyHash P x172), (.str x172 (nat_lit 299)), (.str x185 (nat_lit 298))⟩, ⟨(PyData.keyHash P x173), (.str x173 (nat_lit 301)), (.int (.ofNat (nat_lit 21)) (nat_lit 300))⟩, ⟨(PyData.keyHash P x174), (.str x174 (nat_lit 308)), (.ref (nat_lit 112))⟩, ⟨(PyData.keyHash P x175), (.str x175 (nat_lit 309)), (.ref (nat_lit 113))⟩] (nat_lit 5)), #[]⟩
noncomputable def o102_5 (P : Params) : Obj := ⟨(.type "tuple"), none, (.seq #[] (nat_lit 0)), #[]⟩
noncomputable def o103_5 (P : Params) : Obj := ⟨.none, none, (.fields #[(.int (.ofNat (nat_lit 23)) (nat_lit 0)), (.int (.ofNat (nat_lit 4)) (nat_lit 0)), (.ref (nat_lit 111))]), #[]⟩
noncomputable def o104_5 (P : Params) : Obj := ⟨(.type "code"), none, (.fields #[(.str x185 (nat_lit 292)), (.str x185 (nat_lit 293)), (.str x164 (nat_lit 294)), (.int (.ofNat (nat_lit 21)) (nat_lit 0)), (.int (.ofNat (nat_lit 0)) (nat_lit 0)), (.int (.ofNat (nat_lit 0)) (nat_lit 0)), (.int (.ofNat (nat_lit 0)) (nat_lit 0)), (.int (.ofNat (nat_lit 0)) (nat_lit 0)), (.ref (nat_lit 102)), (.bool false), (.int (.ofNat (nat_lit 181)) (nat_lit 0)), (.ref (nat_lit 103)), .none, .none, .none, .none, (.int (.ofNat (nat_lit 295)) (nat_lit 0)), (.int (.ofNat (nat_lit 21)) (nat_lit 0)), (.str x164 (nat_lit 296))]), #[]⟩
noncomputable def o105_5 (P : Params) : Obj := ⟨(.type "frame"), none, .plain, #[(some (.ref (nat_lit 104))), (some (.ref (nat_lit 3))), (some (.ref (nat_lit 101))), none, (some (.str x169 (nat_lit 194))), none, (some (.ref (nat_lit 0)))]⟩
noncomputable def o106_5 (P : Params) : Obj := ⟨(.type "tuple"), none, (.seq #[] (nat_lit 0)), #[]⟩
noncomputable def o107_5 (P : Params) : Obj := ⟨.none, none, (.fields #[]), #[]⟩
noncomputable def o108_5 (P : Params) : Obj := ⟨(.type "tuple"), none, (.seq #[(.str x176 (nat_lit 305))] (nat_lit 0)), #[]⟩
noncomputable def o109_5 (P : Params) : Obj := ⟨(.type "tuple"), none, (.seq #[] (nat_lit 0)), #[]⟩
noncomputable def o110_5 (P : Params) : Obj := ⟨.none, none, (.func ⟨x174, x186, L2.defArgs (L2.inClass (ht 6) 0), .stmts (L2.defBody (L2.inClass (ht 6) 0)), L2.defScope (L2.inClass (ht 6) 0), (nat_lit 0), [], .none, .none, .none, .none, none, .none, .none, (nat_lit 0)⟩), #[]⟩
noncomputable def o111_5 (P : Params) : Obj := ⟨(.type "code"), none, (.fields #[(.str x174 (nat_lit 302)), (.str x186 (nat_lit 303)), (.str x164 (nat_lit 304)), (.int (.ofNat (nat_lit 23)) (nat_lit 0)), (.int (.ofNat (nat_lit 1)) (nat_lit 0)), (.int (.ofNat (nat_lit 0)) (nat_lit 0)), (.int (.ofNat (nat_lit 0)) (nat_lit 0)), (.int (.ofNat (nat_lit 3)) (nat_lit 0)), (.ref (nat_lit 106)), (.bool true), (.int (.ofNat (nat_lit 181)) (nat_lit 0)), (.ref (nat_lit 107)), .none, (.ref (nat_lit 108)), (.ref (nat_lit 109)), (.ref (nat_lit 110)), (.int (.ofNat (nat_lit 306)) (nat_lit 0)), (.int (.ofNat (nat_lit 23)) (nat_lit 0)), (.str x164 (nat_lit 307))]), #[]⟩
noncomputable def o112_5 (P : Params) : Obj := ⟨(.type "function"), none, (.func ⟨x174, x186, L2.defArgs (L2.inClass (ht 6) 0), .stmts (L2.defBody (L2.inClass (ht 6) 0)), L2.defScope (L2.inClass (ht 6) 0), (nat_lit 3), [], .none, .none, .none, (.str x169 (nat_lit 194)), none, (.ref (nat_lit 111)), .none, (nat_lit 0)⟩), #[]⟩
noncomputable def o113_5 (P : Params) : Obj := ⟨(.type "tuple"), none, (.seq #[] (nat_lit 0)), #[]⟩
noncomputable def o114_5 (P : Params) : Obj := ⟨(.type "dict"), none, (.dict #[⟨(PyData.keyHash P x171), (.str x171 (nat_lit 297)), (.str x169 (nat_lit 194))⟩, ⟨(PyData.keyHash P x173), (.str x173 (nat_lit 301)), (.int (.ofNat (nat_lit 21)) (nat_lit 300))⟩, ⟨(PyData.keyHash P x174), (.str x174 (nat_lit 308)), (.ref (nat_lit 112))⟩, ⟨(PyData.keyHash P x175), (.str x175 (nat_lit 309)), (.ref (nat_lit 113))⟩, ⟨(PyData.keyHash P x2), (.str x2 (nat_lit 310)), .none⟩] (nat_lit 2)), #[]⟩
noncomputable def o115_5 (P : Params) : Obj := ⟨(.type "type"), none, (.cls ⟨x185, [(.ref (nat_lit 38))], [(.ref (nat_lit 115)), (.ref (nat_lit 38)), (.type "ValueError"), (.type "Exception"), (.type "BaseException"), (.type "object")], (nat_lit 114), x185, true, [], [], false, none, false⟩), #[(some (.ref (nat_lit 99))), none, (some (.str x185 (nat_lit 290))), (some (.str x185 (nat_lit 298))), (some (.builtin "ValueError.__new__")), (some (.bool true))]⟩
noncomputable def o116_5 (P : Params) : Obj := ⟨(.type "super"), none, (.fields #[(.ref (nat_lit 115)), (.ref (nat_lit 115)), (.ref (nat_lit 115))]), #[]⟩
noncomputable def o117_5 (P : Params) : Obj := ⟨(.type "builtin_function_or_method"), none, (.fields #[(.builtin "object.__init_subclass__"), (.ref (nat_lit 115))]), #[]⟩
noncomputable def g5 : List Stmt := [ht 6]
noncomputable def T5 (P : Params) : BT := (((((((((((((((((((((((T4 P).ins (nat_lit 3) (o3_5 P)).ins (nat_lit 12) (o12_5 P)).ins (nat_lit 38) (o38_5 P)).ins (nat_lit 99) (o99_5 P)).ins (nat_lit 100) (o100_5 P)).ins (nat_lit 101) (o101_5 P)).ins (nat_lit 102) (o102_5 P)).ins (nat_lit 103) (o103_5 P)).ins (nat_lit 104) (o104_5 P)).ins (nat_lit 105) (o105_5 P)).ins (nat_lit 106) (o106_5 P)).ins (nat_lit 107) (o107_5 P)).ins (nat_lit 108) (o108_5 P)).ins (nat_lit 109) (o109_5 P)).ins (nat_lit 110) (o110_5 P)).ins (nat_lit 111) (o111_5 P)).ins (nat_lit 112) (o112_5 P)).ins (nat_lit 113) (o113_5 P)).ins (nat_lit 114) (o114_5 P)).ins (nat_lit 115) (o115_5 P)).ins (nat_lit 116) (o116_5 P)).ins (nat_lit 117) (o117_5 P))
noncomputable def lf5 : Life := ⟨[], [], [], (nat_lit 0), [], [], false, #[], [], (nat_lit 0), false, false, false, (.ofNat (nat_lit 0)), [(.ofNat (nat_lit 2000)), (.ofNat (nat_lit 10)), (.ofNat (nat_lit 10))], false, (nat_lit 0), true, [], [], (nat_lit 0), false⟩
noncomputable abbrev S5 (w : World) (os : OsState) : SharedT := ⟨T5 w.params, nat_lit 118, lf5, Array.mk [], ⟨(nat_lit 0), (nat_lit 0), (nat_lit 0), (nat_lit 0)⟩, nat_lit 313, os⟩
noncomputable def q5 (w : World) : (OsState → Option (Flow × SharedT × Code × Pos)) × (OsState → Option (Flow × SharedT × Code × Pos)) := (fun os => segRunT treeTable pw w (nat_lit 11) (some (.ref (nat_lit 6))) (nat_lit 1) (nat_lit 244) (S4 w os) (piecesOf g5 hE hC ⟨(nat_lit 17), (nat_lit 0), (nat_lit 20), (nat_lit 16)⟩ hB), fun os => some (Flow.next, S5 w os, hC, ⟨(nat_lit 21), (nat_lit 0), (nat_lit 24), (nat_lit 16)⟩))
theorem q5_eq : HD.seg pw (nat_lit 11) (some (.ref (nat_lit 6))) (nat_lit 244) S4 S5 g5 hE hC ⟨(nat_lit 17), (nat_lit 0), (nat_lit 20), (nat_lit 16)⟩ ⟨(nat_lit 21), (nat_lit 0), (nat_lit 24), (nat_lit 16)⟩ hB = q5 := by kernel_rfl
name_quick YK405 for q5 by q5_eq
theorem i5 (w : World) : (Fast.YK405 w).1 = (Fast.YK405 w).2 := by kernel_rfl
theorem h5 : HD.Ok (HD.seg pw (nat_lit 11) (some (.ref (nat_lit 6))) (nat_lit 244) S4 S5 g5 hE hC ⟨(nat_lit 17), (nat_lit 0), (nat_lit 20), (nat_lit 16)⟩ ⟨(nat_lit 21), (nat_lit 0), (nat_lit 24), (nat_lit 16)⟩ hB) := HD.by1 Fast.YK405_eq i5
noncomputable def o3_6 (P : Params) : Obj := ⟨(.type "dict"), none, (.dict #[⟨(PyData.keyHash P x0), (.str x0 (nat_lit 165)), (.str x169 (nat_lit 194))⟩, ⟨(PyData.keyHash P x2), (.str x2 (nat_lit 166)), .none⟩, ⟨(PyData.keyHash P x3), (.str x3 (nat_lit 167)), .none⟩, ⟨(PyData.keyHash P x4), (.str x4 (nat_lit 168)), (.builtin "__main__.__loader__#opaque")⟩, ⟨(PyData.keyHash P x5), (.str x5 (nat_lit 169)), .none⟩, ⟨(PyData.keyHash P x161), (.str x161 (nat_lit 170)), (.ref (nat_lit 6))⟩, ⟨(PyData.keyHash P x162), (.str x162 (nat_lit 171)), (.ref (nat_lit 4))⟩, ⟨(PyData.keyHash P x163), (.str x163 (nat_lit 173)), (.str x164 (nat_lit 172))⟩, ⟨(PyData.keyHash P x165), (.str x165 (nat_lit 174)), .none⟩, ⟨(PyData.keyHash P x167), (.str x167 (nat_lit 193)), (.ref (nat_lit 21))⟩, ⟨(PyData.keyHash P x170), (.str x170 (nat_lit 220)), (.ref (nat_lit 38))⟩, ⟨(PyData.keyHash P x179), (.str x179 (nat_lit 243)), (.ref (nat_lit 58))⟩, ⟨(PyData.keyHash P x181), (.str x181 (nat_lit 266)), (.ref (nat_lit 77))⟩, ⟨(PyData.keyHash P x183), (.str x183 (nat_lit 289)), (.ref (nat_lit 96))⟩, ⟨(PyData.keyHash P x185), (.str x185 (nat_lit 312)), (.ref (nat_lit 115))⟩, ⟨(PyData.keyHash P x187), (.str x187 (nat_lit 335)), (.ref (nat_lit 134))⟩] (nat_lit 16)), #[]⟩
noncomputable def o12_6 (P : Params) : Obj := ⟨.none, none, (.fields #[(.int (.ofNat (nat_lit 1)) (nat_lit 0)), (.int (.ofNat (nat_lit 0)) (nat_lit 0)), (.ref (nat_lit 20)), (.int (.ofNat (nat_lit 5)) (nat_lit 0)), (.int (.ofNat (nat_lit 0)) (nat_lit 0)), (.ref (nat_lit 27)), (.int (.ofNat (nat_lit 9)) (nat_lit 0)), (.int (.ofNat (nat_lit 0)) (nat_lit 0)), (.ref (nat_lit 47)), (.int (.ofNat (nat_lit 13)) (nat_lit 0)), (.int (.ofNat (nat_lit 0)) (nat_lit 0)), (.ref (nat_lit 66)), (.int (.ofNat (nat_lit 17)) (nat_lit 0)), (.int (.ofNat (nat_lit 0)) (nat_lit 0)), (.ref (nat_lit 85)), (.int (.ofNat (nat_lit 21)) (nat_lit 0)), (.int (.ofNat (nat_lit 0)) (nat_lit 0)), (.ref (nat_lit 104)), (.int (.ofNat (nat_lit 25)) (nat_lit 0)), (.int (.ofNat (nat_lit 0)) (nat_lit 0)), (.ref (nat_lit 123))]), #[]⟩
noncomputable def o38_6 (P : Params) : Obj := ⟨(.type "type"), none, (.cls ⟨x170, [(.type "ValueError")], [(.ref (nat_lit 38)), (.type "ValueError"), (.type "Exception"), (.type "BaseException"), (.type "object")], (nat_lit 37), x170, true, [], [(.ref (nat_lit 58)), (.ref (nat_lit 77)), (.ref (nat_lit 96)), (.ref (nat_lit 115)), (.ref (nat_lit 134))], false, none, false⟩), #[(some (.ref (nat_lit 22))), none, (some (.str x170 (nat_lit 196))), (some (.str x170 (nat_lit 204))), (some (.builtin "ValueError.__new__")), (some (.bool true))]⟩
noncomputable def o118_6 (P : Params) : Obj := ⟨(.type "tuple"), none, (.seq #[(.ref (nat_lit 38))] (nat_lit 0)), #[]⟩
noncomputable def o119_6 (P : Params) : Obj := ⟨(.type "builtin_function_or_method"), none, (.fields #[(.builtin "type.__prepare__"), (.type "type")]), #[]⟩
noncomputable def o120_6 (P : Params) : Obj := ⟨(.type "dict"), none, (.dict #[⟨(PyData.keyHash P x171), (.str x171 (nat_lit 320)), (.str x169 (nat_lit 194))⟩, ⟨(PyData.keyHash P x172), (.str x172 (nat_lit 322)), (.str x187 (nat_lit 321))⟩, ⟨(PyData.keyHash P x173), (.str x173 (nat_lit 324)), (.int (.ofNat (nat_lit 25)) (nat_lit 323))⟩, ⟨(PyData.keyHash P x174), (.str x174 (nat_lit 331)), (.ref (nat_lit 131))⟩, ⟨(PyData.keyHash P x175), (.str x175 (nat_lit 332)), (.ref (nat_lit 132))⟩] (nat_lit 5)), #[]⟩
noncomputable def o121_6 (P : Params) : Obj := ⟨(.type "tuple"), none, (.seq #[] (nat_lit 0)), #[]⟩
noncomputable def o122_6 (P : Params) : Obj := ⟨.none, none, (.fields #[(.int (.ofNat (nat_lit 27)) (nat_lit 0)), (.int (.ofNat (nat_lit 4)) (nat_lit 0)), (.ref (nat_lit 130))]), #[]⟩
noncomputable def o123_6 (P : Params) : Obj := ⟨(.type "code"), none, (.fields #[(.str x187 (nat_lit 315)), (.str x187 (nat_lit 316)), (.str x164 (nat_lit 317)), (.int (.ofNat (nat_lit 25)) (nat_lit 0)), (.int (.ofNat (nat_lit 0)) (nat_lit 0)), (.int (.ofNat (nat_lit 0)) (nat_lit 0)), (.int (.ofNat (nat_lit 0)) (nat_lit 0)), (.int (.ofNat (nat_lit 0)) (nat_lit 0)), (.ref (nat_lit 121)), (.bool false), (.int (.ofNat (nat_lit 181)) (nat_lit 0)), (.ref (nat_lit 122)), .none, .none, .none, .none, (.int (.ofNat (nat_lit 318)) (nat_lit 0)), (.int (.ofNat (nat_lit 25)) (nat_lit 0)), (.str x164 (nat_lit 319))]), #[]⟩
noncomputable def o124_6 (P : Params) : Obj := ⟨(.type "frame"), none, .plain, #[(some (.ref (nat_lit 123))), (some (.ref (nat_lit 3))), (some (.ref (nat_lit 120))), none, (some (.str x169 (nat_lit 194))), none, (some (.ref (nat_lit 0)))]⟩
noncomputable def o125_6 (P : Params) : Obj := ⟨(.type "tuple"), none, (.seq #[] (nat_lit 0)), #[]⟩
noncomputable def o126_6 (P : Params) : Obj := ⟨.none, none, (.fields #[]), #[]⟩
noncomputable def o127_6 (P : Params) : Obj := ⟨(.type "tuple"), none, (.seq #[(.str x176 (nat_lit 328))] (nat_lit 0)), #[]⟩
noncomputable def o128_6 (P : Params) : Obj := ⟨(.type "tuple"), none, (.seq #[] (nat_lit 0)), #[]⟩
noncomputable def o129_6 (P : Params) : Obj := ⟨.none, none, (.func ⟨x174, x188, L2.defArgs (L2.inClass (ht 7) 0), .stmts (L2.defBody (L2.inClass (ht 7) 0)), L2.defScope (L2.inClass (ht 7) 0), (nat_lit 0), [], .none, .none, .none, .none, none, .none, .none, (nat_lit 0)⟩), #[]⟩
noncomputable def o130_6 (P : Params) : Obj := ⟨(.type "code"), none, (.fields #[(.str x174 (nat_lit 325)), (.str x188 (nat_lit 326)), (.str x164 (nat_lit 327)), (.int (.ofNat (nat_lit 27)) (nat_lit 0)), (.int (.ofNat (nat_lit 1)) (nat_lit 0)), (.int (.ofNat (nat_lit 0)) (nat_lit 0)), (.int (.ofNat (nat_lit 0)) (nat_lit 0)), (.int (.ofNat (nat_lit 3)) (nat_lit 0)), (.ref (nat_lit 125)), (.bool true), (.int (.ofNat (nat_lit 181)) (nat_lit 0)), (.ref (nat_lit 126)), .none, (.ref (nat_lit 127)), (.ref (nat_lit 128)), (.ref (nat_lit 129)), (.int (.ofNat (nat_lit 329)) (nat_lit 0)), (.int (.ofNat (nat_lit 27)) (nat_lit 0)), (.str x164 (nat_lit 330))]), #[]⟩
noncomputable def o131_6 (P : Params) : Obj := ⟨(.type "function"), none, (.func ⟨x174, x188, L2.defArgs (L2.inClass (ht 7) 0), .stmts (L2.defBody (L2.inClass (ht 7) 0)), L2.defScope (L2.inClass (ht 7) 0), (nat_lit 3), [], .none, .none, .none, (.str x169 (nat_lit 194)), none, (.ref (nat_lit 130)), .none, (nat_lit 0)⟩), #[]⟩
noncomputable def o132_6 (P : Params) : Obj := ⟨(.type "tuple"), none, (.seq #[] (nat_lit 0)), #[]⟩
noncomputable def o133_6 (P : Params) : Obj := ⟨(.type "dict"), none, (.dict #[⟨(PyData.keyHash P x171), (.str x171 (nat_lit 320)), (.str x169 (nat_lit 194))⟩, ⟨(PyData.keyHash P x173), (.str x173 (nat_lit 324)), (.int (.ofNat (nat_lit 25)) (nat_lit 323))⟩, ⟨(PyData.keyHash P x174), (.str x174 (nat_lit 331)), (.ref (nat_lit 131))⟩, ⟨(PyData.keyHash P x175), (.str x175 (nat_lit 332)), (.ref (nat_lit 132))⟩, ⟨(PyData.keyHash P x2), (.str x2 (nat_lit 333)), .none⟩] (nat_lit 2)), #[]⟩
noncomputable def o134_6 (P : Params) : Obj := ⟨(.type "type"), none, (.cls ⟨x187, [(.ref (nat_lit 38))], [(.ref (nat_lit 134)), (.ref (nat_lit 38)), (.type "ValueError"), (.type "Exception"), (.type "BaseException"), (.type "object")], (nat_lit 133), x187, true, [], [], false, none, false⟩), #[(some (.ref (nat_lit 118))), none, (some (.str x187 (nat_lit 313))), (some (.str x187 (nat_lit 321))), (some (.builtin "ValueError.__new__")), (some (.bool true))]⟩
noncomputable def o135_6 (P : Params) : Obj := ⟨(.type "super"), none, (.fields #[(.ref (nat_lit 134)), (.ref (nat_lit 134)), (.ref (nat_lit 134))]), #[]⟩
noncomputable def o136_6 (P : Params) : Obj := ⟨(.type "builtin_function_or_method"), none, (.fields #[(.builtin "object.__init_subclass__"), (.ref (nat_lit 134))]), #[]⟩
noncomputable def g6 : List Stmt := [ht 7]
noncomputable def T6 (P : Params) : BT := (((((((((((((((((((((((T5 P).ins (nat_lit 3) (o3_6 P)).ins (nat_lit 12) (o12_6 P)).ins (nat_lit 38) (o38_6 P)).ins (nat_lit 118) (o118_6 P)).ins (nat_lit 119) (o119_6 P)).ins (nat_lit 120) (o120_6 P)).ins (nat_lit 121) (o121_6 P)).ins (nat_lit 122) (o122_6 P)).ins (nat_lit 123) (o123_6 P)).ins (nat_lit 124) (o124_6 P)).ins (nat_lit 125) (o125_6 P)).ins (nat_lit 126) (o126_6 P)).ins (nat_lit 127) (o127_6 P)).ins (nat_lit 128) (o128_6 P)).ins (nat_lit 129) (o129_6 P)).ins (nat_lit 130) (o130_6 P)).ins (nat_lit 131) (o131_6 P)).ins (nat_lit 132) (o132_6 P)).ins (nat_lit 133) (o133_6 P)).ins (nat_lit 134) (o134_6 P)).ins (nat_lit 135) (o135_6 P)).ins (nat_lit 136) (o136_6 P))
noncomputable def lf6 : Life := ⟨[], [], [], (nat_lit 0), [], [], false, #[], [], (nat_lit 0), false, false, false, (.ofNat (nat_lit 0)), [(.ofNat (nat_lit 2000)), (.ofNat (nat_lit 10)), (.ofNat (nat_lit 10))], false, (nat_lit 0), true, [], [], (nat_lit 0), false⟩
noncomputable abbrev S6 (w : World) (os : OsState) : SharedT := ⟨T6 w.params, nat_lit 137, lf6, Array.mk [], ⟨(nat_lit 0), (nat_lit 0), (nat_lit 0), (nat_lit 0)⟩, nat_lit 336, os⟩
noncomputable def q6 (w : World) : (OsState → Option (Flow × SharedT × Code × Pos)) × (OsState → Option (Flow × SharedT × Code × Pos)) := (fun os => segRunT treeTable pw w (nat_lit 11) (some (.ref (nat_lit 6))) (nat_lit 1) (nat_lit 244) (S5 w os) (piecesOf g6 hE hC ⟨(nat_lit 21), (nat_lit 0), (nat_lit 24), (nat_lit 16)⟩ hB), fun os => some (Flow.next, S6 w os, hC, ⟨(nat_lit 25), (nat_lit 0), (nat_lit 28), (nat_lit 16)⟩))
theorem q6_eq : HD.seg pw (nat_lit 11) (some (.ref (nat_lit 6))) (nat_lit 244) S5 S6 g6 hE hC ⟨(nat_lit 21), (nat_lit 0), (nat_lit 24), (nat_lit 16)⟩ ⟨(nat_lit 25), (nat_lit 0), (nat_lit 28), (nat_lit 16)⟩ hB = q6 := by kernel_rfl
name_quick YK406 for q6 by q6_eq
theorem i6 (w : World) : (Fast.YK406 w).1 = (Fast.YK406 w).2 := by kernel_rfl
theorem h6 : HD.Ok (HD.seg pw (nat_lit 11) (some (.ref (nat_lit 6))) (nat_lit 244) S5 S6 g6 hE hC ⟨(nat_lit 21), (nat_lit 0), (nat_lit 24), (nat_lit 16)⟩ ⟨(nat_lit 25), (nat_lit 0), (nat_lit 28), (nat_lit 16)⟩ hB) := HD.by1 Fast.YK406_eq i6
noncomputable def o3_7 (P : Params) : Obj := ⟨(.type "dict"), none, (.dict #[⟨(PyData.keyHash P x0), (.str x0 (nat_lit 165)), (.str x169 (nat_lit 194))⟩, ⟨(PyData.keyHash P x2), (.str x2 (nat_lit 166)), .none⟩, ⟨(PyData.keyHash P x3), (.str x3 (nat_lit 167)), .none⟩, ⟨(PyData.keyHash P x4), (.str x4 (nat_lit 168)), (.builtin "__main__.__loader__#opaque")⟩, ⟨(PyData.keyHash P x5), (.str x5 (nat_lit 169)), .none⟩, ⟨(PyData.keyHash P x161), (.str x161 (nat_lit 170)), (.ref (nat_lit 6))⟩, ⟨(PyData.keyHash P x162), (.str x162 (nat_lit 171)), (.ref (nat_lit 4))⟩, ⟨(PyData.keyHash P x163), (.str x163 (nat_lit 173)), (.str x164 (nat_lit 172))⟩, ⟨(PyData.keyHash P x165), (.str x165 (nat_lit 174)), .none⟩, ⟨(PyData.keyHash P x167), (.str x167 (nat_lit 193)), (.ref (nat_lit 21))⟩, ⟨(PyData.keyHash P x170), (.str x170 (nat_lit 220)), (.ref (nat_lit 38))⟩, ⟨(PyData.keyHash P x179), (.str x179 (nat_lit 243)), (.ref (nat_lit 58))⟩, ⟨(PyData.keyHash P x181), (.str x181 (nat_lit 266)), (.ref (nat_lit 77))⟩, ⟨(PyData.keyHash P x183), (.str x183 (nat_lit 289)), (.ref (nat_lit 96))⟩, ⟨(PyData.keyHash P x185), (.str x185 (nat_lit 312)), (.ref (nat_lit 115))⟩, ⟨(PyData.keyHash P x187), (.str x187 (nat_lit 335)), (.ref (nat_lit 134))⟩, ⟨(PyData.keyHash P x189), (.str x189 (nat_lit 358)), (.ref (nat_lit 153))⟩] (nat_lit 17)), #[]⟩
noncomputable def o12_7 (P : Params) : Obj := ⟨.none, none, (.fields #[(.int (.ofNat (nat_lit 1)) (nat_lit 0)), (.int (.ofNat (nat_lit 0)) (nat_lit 0)), (.ref (nat_lit 20)), (.int (.ofNat (nat_lit 5)) (nat_lit 0)), (.int (.ofNat (nat_lit 0)) (nat_lit 0)), (.ref (nat_lit 27)), (.int (.ofNat (nat_lit 9)) (nat_lit 0)), (.int (.ofNat (nat_lit 0)) (nat_lit 0)), (.ref (nat_lit 47)), (.int (.ofNat (nat_lit 13)) (nat_lit 0)), (.int (.ofNat (nat_lit 0)) (nat_lit 0)), (.ref (nat_lit 66)), (.int (.ofNat (nat_lit 17)) (nat_lit 0)), (.int (.ofNat (nat_lit 0)) (nat_lit 0)), (.ref (nat_lit 85)), (.int (.ofNat (nat_lit 21)) (nat_lit 0)), (.int (.ofNat (nat_lit 0)) (nat_lit 0)), (.ref (nat_lit 104)), (.int (.ofNat (nat_lit 25)) (nat_lit 0)), (.int (.ofNat (nat_lit 0)) (nat_lit 0)), (.ref (nat_lit 123)), (.int (.ofNat (nat_lit 29)) (nat_lit 0)), (.int (.ofNat (nat_lit 0)) (nat_lit 0)), (.ref (nat_lit 142))]), #[]⟩
noncomputable def o38_7 (P : Params) : Obj := ⟨(.type "type"), none, (.cls ⟨x170, [(.type "ValueError")], [(.ref (nat_lit 38)), (.type "ValueError"), (.type "Exception"), (.type "BaseException"), (.type "object")], (nat_lit 37), x170, true, [], [(.ref (nat_lit 58)), (.ref (nat_lit 77)), (.ref (nat_lit 96)), (.ref (nat_lit 115)), (.ref (nat_lit 134)), (.ref (nat_lit 153))], false, none, false⟩), #[(some (.ref (nat_lit 22))), none, (some (.str x170 (nat_lit 196))), (some (.str x170 (nat_lit 204))), (some (.builtin "ValueError.__new__")), (some (.bool true))]⟩
noncomputable def o137_7 (P : Params) : Obj := ⟨(.type "tuple"), none, (.seq #[(.ref (nat_lit 38))] (nat_lit 0)), #[]⟩
noncomputable def o138_7 (P : Params) : Obj := ⟨(.type "builtin_function_or_method"), none, (.fields #[(.builtin "type.__prepare__"), (.type "type")]), #[]⟩
noncomputable def o139_7 (P : Params) : Obj := ⟨(.type "dict"), none, (.dict #[⟨(PyData.keyHash P x171), (.str x171 (nat_lit 343)), (.str x169 (nat_lit 194))⟩, ⟨(PyData.keyHash P x172), (.str x172 (nat_lit 345)), (.str x189 (nat_lit 344))⟩, ⟨(PyData.keyHash P x173), (.str x173 (nat_lit 347)), (.int (.ofNat (nat_lit 29)) (nat_lit 346))⟩, ⟨(PyData.keyHash P x174), (.str x174 (nat_lit 354)), (.ref (nat_lit 150))⟩, ⟨(PyData.keyHash P x175), (.str x175 (nat_lit 355)), (.ref (nat_lit 151))⟩] (nat_lit 5)), #[]⟩
noncomputable def o140_7 (P : Params) : Obj := ⟨(.type "tuple"), none, (.seq #[] (nat_lit 0)), #[]⟩
noncomputable def o141_7 (P : Params) : Obj := ⟨.none, none, (.fields #[(.int (.ofNat (nat_lit 31)) (nat_lit 0)), (.int (.ofNat (nat_lit 4)) (nat_lit 0)), (.ref (nat_lit 149))]), #[]⟩
noncomputable def o142_7 (P : Params) : Obj := ⟨(.type "code"), none, (.fields #[(.str x189 (nat_lit 338)), (.str x189 (nat_lit 339)), (.str x164 (nat_lit 340)), (.int (.ofNat (nat_lit 29)) (nat_lit 0)), (.int (.ofNat (nat_lit 0)) (nat_lit 0)), (.int (.ofNat (nat_lit 0)) (nat_lit 0)), (.int (.ofNat (nat_lit 0)) (nat_lit 0)), (.int (.ofNat (nat_lit 0)) (nat_lit 0)), (.ref (nat_lit 140)), (.bool false), (.int (.ofNat (nat_lit 181)) (nat_lit 0)), (.ref (nat_lit 141)), .none, .none, .none, .none, (.int (.ofNat (nat_lit 341)) (nat_lit 0)), (.int (.ofNat (nat_lit 29)) (nat_lit 0)), (.str x164 (nat_lit 342))]), #[]⟩
noncomputable def o143_7 (P : Params) : Obj := ⟨(.type "frame"), none, .plain, #[(some (.ref (nat_lit 142))), (some (.ref (nat_lit 3))), (some (.ref (nat_lit 139))), none, (some (.str x169 (nat_lit 194))), none, (some (.ref (nat_lit 0)))]⟩
noncomputable def o144_7 (P : Params) : Obj := ⟨(.type "tuple"), none, (.seq #[] (nat_lit 0)), #[]⟩
noncomputable def o145_7 (P : Params) : Obj := ⟨.none, none, (.fields #[]), #[]⟩
noncomputable def o146_7 (P : Params) : Obj := ⟨(.type "tuple"), none, (.seq #[(.str x176 (nat_lit 351))] (nat_lit 0)), #[]⟩
noncomputable def o147_7 (P : Params) : Obj := ⟨(.type "tuple"), none, (.seq #[] (nat_lit 0)), #[]⟩
noncomputable def o148_7 (P : Params) : Obj := ⟨.none, none, (.func ⟨x174, x190, L2.defArgs (L2.inClass (ht 8) 0), .stmts (L2.defBody (L2.inClass (ht 8) 0)), L2.defScope (L2.inClass (ht 8) 0), (nat_lit 0), [], .none, .none, .none, .none, none, .none, .none, (nat_lit 0)⟩), #[]⟩
noncomputable def o149_7 (P : Params) : Obj := ⟨(.type "code"), none, (.fields #[(.str x174 (nat_lit 348)), (.str x190 (nat_lit 349)), (.str x164 (nat_lit 350)), (.int (.ofNat (nat_lit 31)) (nat_lit 0)), (.int (.ofNat (nat_lit 1)) (nat_lit 0)), (.int (.ofNat (nat_lit 0)) (nat_lit 0)), (.int (.ofNat (nat_lit 0)) (nat_lit 0)), (.int (.ofNat (nat_lit 3)) (nat_lit 0)), (.ref (nat_lit 144)), (.bool true), (.int (.ofNat (nat_lit 181)) (nat_lit 0)), (.ref (nat_lit 145)), .none, (.ref (nat_lit 146)), (.ref (nat_lit 147)), (.ref (nat_lit 148)), (.int (.ofNat (nat_lit 352)) (nat_lit 0)), (.int (.ofNat (nat_lit 31)) (nat_lit 0)), (.str x164 (nat_lit 353))]), #[]⟩
noncomputable def o150_7 (P : Params) : Obj := ⟨(.type "function"), none, (.func ⟨x174, x190, L2.defArgs (L2.inClass (ht 8) 0), .stmts (L2.defBody (L2.inClass (ht 8) 0)), L2.defScope (L2.inClass (ht 8) 0), (nat_lit 3), [], .none, .none, .none, (.str x169 (nat_lit 194)), none, (.ref (nat_lit 149)), .none, (nat_lit 0)⟩), #[]⟩
noncomputable def o151_7 (P : Params) : Obj := ⟨(.type "tuple"), none, (.seq #[] (nat_lit 0)), #[]⟩
noncomputable def o152_7 (P : Params) : Obj := ⟨(.type "dict"), none, (.dict #[⟨(PyData.keyHash P x171), (.str x171 (nat_lit 343)), (.str x169 (nat_lit 194))⟩, ⟨(PyData.keyHash P x173), (.str x173 (nat_lit 347)), (.int (.ofNat (nat_lit 29)) (nat_lit 346))⟩, ⟨(PyData.keyHash P x174), (.str x174 (nat_lit 354)), (.ref (nat_lit 150))⟩, ⟨(PyData.keyHash P x175), (.str x175 (nat_lit 355)), (.ref (nat_lit 151))⟩, ⟨(PyData.keyHash P x2), (.str x2 (nat_lit 356)), .none⟩] (nat_lit 2)), #[]⟩
noncomputable def o153_7 (P : Params) : Obj := ⟨(.type "type"), none, (.cls ⟨x189, [(.ref (nat_lit 38))], [(.ref (nat_lit 153)), (.ref (nat_lit 38)), (.type "ValueError"), (.type "Exception"), (.type "BaseException"), (.type "object")], (nat_lit 152), x189, true, [], [], false, none, false⟩), #[(some (.ref (nat_lit 137))), none, (some (.str x189 (nat_lit 336))), (some (.str x189 (nat_lit 344))), (some (.builtin "ValueError.__new__")), (some (.bool true))]⟩
noncomputable def o154_7 (P : Params) : Obj := ⟨(.type "super"), none, (.fields #[(.ref (nat_lit 153)), (.ref (nat_lit 153)), (.ref (nat_lit 153))]), #[]⟩
noncomputable def o155_7 (P : Params) : Obj := ⟨(.type "builtin_function_or_method"), none, (.fields #[(.builtin "object.__init_subclass__"), (.ref (nat_lit 153))]), #[]⟩
noncomputable def g7 : List Stmt := [ht 8]
noncomputable def T7 (P : Params) : BT := (((((((((((((((((((((((T6 P).ins (nat_lit 3) (o3_7 P)).ins (nat_lit 12) (o12_7 P)).ins (nat_lit 38) (o38_7 P)).ins (nat_lit 137) (o137_7 P)).ins (nat_lit 138) (o138_7 P)).ins (nat_lit 139) (o139_7 P)).ins (nat_lit 140) (o140_7 P)).ins (nat_lit 141) (o141_7 P)).ins (nat_lit 142) (o142_7 P)).ins (nat_lit 143) (o143_7 P)).ins (nat_lit 144) (o144_7 P)).ins (nat_lit 145) (o145_7 P)).ins (nat_lit 146) (o146_7 P)).ins (nat_lit 147) (o147_7 P)).ins (nat_lit 148) (o148_7 P)).ins (nat_lit 149) (o149_7 P)).ins (nat_lit 150) (o150_7 P)).ins (nat_lit 151) (o151_7 P)).ins (nat_lit 152) (o152_7 P)).ins (nat_lit 153) (o153_7 P)).ins (nat_lit 154) (o154_7 P)).ins (nat_lit 155) (o155_7 P))
noncomputable def lf7 : Life := ⟨[], [], [], (nat_lit 0), [], [], false, #[], [], (nat_lit 0), false, false, false, (.ofNat (nat_lit 0)), [(.ofNat (nat_lit 2000)), (.ofNat (nat_lit 10)), (.ofNat (nat_lit 10))], false, (nat_lit 0), true, [], [], (nat_lit 0), false⟩
noncomputable abbrev S7 (w : World) (os : OsState) : SharedT := ⟨T7 w.params, nat_lit 156, lf7, Array.mk [], ⟨(nat_lit 0), (nat_lit 0), (nat_lit 0), (nat_lit 0)⟩, nat_lit 359, os⟩
noncomputable def q7 (w : World) : (OsState → Option (Flow × SharedT × Code × Pos)) × (OsState → Option (Flow × SharedT × Code × Pos)) := (fun os => segRunT treeTable pw w (nat_lit 11) (some (.ref (nat_lit 6))) (nat_lit 1) (nat_lit 244) (S6 w os) (piecesOf g7 hE hC ⟨(nat_lit 25), (nat_lit 0), (nat_lit 28), (nat_lit 16)⟩ hB), fun os => some (Flow.next, S7 w os, hC, ⟨(nat_lit 29), (nat_lit 0), (nat_lit 32), (nat_lit 16)⟩))
theorem q7_eq : HD.seg pw (nat_lit 11) (some (.ref (nat_lit 6))) (nat_lit 244) S6 S7 g7 hE hC ⟨(nat_lit 25), (nat_lit 0), (nat_lit 28), (nat_lit 16)⟩ ⟨(nat_lit 29), (nat_lit 0), (nat_lit 32), (nat_lit 16)⟩ hB = q7 := by kernel_rfl
name_quick YK407 for q7 by q7_eq
theorem i7 (w : World) : (Fast.YK407 w).1 = (Fast.YK407 w).2 := by kernel_rfl
theorem h7 : HD.Ok (HD.seg pw (nat_lit 11) (some (.ref (nat_lit 6))) (nat_lit 244) S6 S7 g7 hE hC ⟨(nat_lit 25), (nat_lit 0), (nat_lit 28), (nat_lit 16)⟩ ⟨(nat_lit 29), (nat_lit 0), (nat_lit 32), (nat_lit 16)⟩ hB) := HD.by1 Fast.YK407_eq i7
noncomputable def o3_8 (P : Params) : Obj := ⟨(.type "dict"), none, (.dict #[⟨(PyData.keyHash P x0), (.str x0 (nat_lit 165)), (.str x169 (nat_lit 194))⟩, ⟨(PyData.keyHash P x2), (.str x2 (nat_lit 166)), .none⟩, ⟨(PyData.keyHash P x3), (.str x3 (nat_lit 167)), .none⟩, ⟨(PyData.keyHash P x4), (.str x4 (nat_lit 168)), (.builtin "__main__.__loader__#opaque")⟩, ⟨(PyData.keyHash P x5), (.str x5 (nat_lit 169)), .none⟩, ⟨(PyData.keyHash P x161), (.str x161 (nat_lit 170)), (.ref (nat_lit 6))⟩, ⟨(PyData.keyHash P x162), (.str x162 (nat_lit 171)), (.ref (nat_lit 4))⟩, ⟨(PyData.keyHash P x163), (.str x163 (nat_lit 173)), (.str x164 (nat_lit 172))⟩, ⟨(PyData.keyHash P x165), (.str x165 (nat_lit 174)), .none⟩, ⟨(PyData.keyHash P x167), (.str x167 (nat_lit 193)), (.ref (nat_lit 21))⟩, ⟨(PyData.keyHash P x170), (.str x170 (nat_lit 220)), (.ref (nat_lit 38))⟩, ⟨(PyData.keyHash P x179), (.str x179 (nat_lit 243)), (.ref (nat_lit 58))⟩, ⟨(PyData.keyHash P x181), (.str x181 (nat_lit 266)), (.ref (nat_lit 77))⟩, ⟨(PyData.keyHash P x183), (.str x183 (nat_lit 289)), (.ref (nat_lit 96))⟩, ⟨(PyData.keyHash P x185), (.str x185 (nat_lit 312)), (.ref (nat_lit 115))⟩, ⟨(PyData.keyHash P x187), (.str x187 (nat_lit 335)), (.ref (nat_lit 134))⟩, ⟨(PyData.keyHash P x189), (.str x189 (nat_lit 358)), (.ref (nat_lit 153))⟩, ⟨(PyData.keyHash P x191), (.str x191 (nat_lit 381)), (.ref (nat_lit 172))⟩] (nat_lit 18)), #[]⟩
noncomputable def o12_8 (P : Params) : Obj := ⟨.none, none, (.fields #[(.int (.ofNat (nat_lit 1)) (nat_lit 0)), (.int (.ofNat (nat_lit 0)) (nat_lit 0)), (.ref (nat_lit 20)), (.int (.ofNat (nat_lit 5)) (nat_lit 0)), (.int (.ofNat (nat_lit 0)) (nat_lit 0)), (.ref (nat_lit 27)), (.int (.ofNat (nat_lit 9)) (nat_lit 0)), (.int (.ofNat (nat_lit 0)) (nat_lit 0)), (.ref (nat_lit 47)), (.int (.ofNat (nat_lit 13)) (nat_lit 0)), (.int (.ofNat (nat_lit 0)) (nat_lit 0)), (.ref (nat_lit 66)), (.int (.ofNat (nat_lit 17)) (nat_lit 0)), (.int (.ofNat (nat_lit 0)) (nat_lit 0)), (.ref (nat_lit 85)), (.int (.ofNat (nat_lit 21)) (nat_lit 0)), (.int (.ofNat (nat_lit 0)) (nat_lit 0)), (.ref (nat_lit 104)), (.int (.ofNat (nat_lit 25)) (nat_lit 0)), (.int (.ofNat (nat_lit 0)) (nat_lit 0)), (.ref (nat_lit 123)), (.int (.ofNat (nat_lit 29)) (nat_lit 0)), (.int (.ofNat (nat_lit 0)) (nat_lit 0)), (.ref (nat_lit 142)), (.int (.ofNat (nat_lit 33)) (nat_lit 0)), (.int (.ofNat (nat_lit 0)) (nat_lit 0)), (.ref (nat_lit 161))]), #[]⟩
noncomputable def o38_8 (P : Params) : Obj := ⟨(.type "type"), none, (.cls ⟨x170, [(.type "ValueError")], [(.ref (nat_lit 38)), (.type "ValueError"), (.type "Exception"), (.type "BaseException"), (.type "object")], (nat_lit 37), x170, true, [], [(.ref (nat_lit 58)), (.ref (nat_lit 77)), (.ref (nat_lit 96)), (.ref (nat_lit 115)), (.ref (nat_lit 134)), (.ref (nat_lit 153)), (.ref (nat_lit 172))], false, none, false⟩), #[(some (.ref (nat_lit 22))), none, (some (.str x170 (nat_lit 196))), (some (.str x170 (nat_lit 204))), (some (.builtin "ValueError.__new__")), (some (.bool true))]⟩
noncomputable def o156_8 (P : Params) : Obj := ⟨(.type "tuple"), none, (.seq #[(.ref (nat_lit 38))] (nat_lit 0)), #[]⟩
noncomputable def o157_8 (P : Params) : Obj := ⟨(.type "builtin_function_or_method"), none, (.fields #[(.builtin "type.__prepare__"), (.type "type")]), #[]⟩
noncomputable def o158_8 (P : Params) : Obj := ⟨(.type "dict"), none, (.dict #[⟨(PyData.keyHash P x171), (.str x171 (nat_lit 366)), (.str x169 (nat_lit 194))⟩, ⟨(PyData.keyHash P x172), (.str x172 (nat_lit 368)), (.str x191 (nat_lit 367))⟩, ⟨(PyData.keyHash P x173), (.str x173 (nat_lit 370)), (.int (.ofNat (nat_lit 33)) (nat_lit 369))⟩, ⟨(PyData.keyHash P x174), (.str x174 (nat_lit 377)), (.ref (nat_lit 169))⟩, ⟨(PyData.keyHash P x175), (.str x175 (nat_lit 378)), (.ref (nat_lit 170))⟩] (nat_lit 5)), #[]⟩
noncomputable def o159_8 (P : Params) : Obj := ⟨(.type "tuple"), none, (.seq #[] (nat_lit 0)), #[]⟩
noncomputable def o160_8 (P : Params) : Obj := ⟨.none, none, (.fields #[(.int (.ofNat (nat_lit 35)) (nat_lit 0)), (.int (.ofNat (nat_lit 4)) (nat_lit 0)), (.ref (nat_lit 168))]), #[]⟩
noncomputable def o161_8 (P : Params) : Obj := ⟨(.type "code"), none, (.fields #[(.str x191 (nat_lit 361)), (.str x191 (nat_lit 362)), (.str x164 (nat_lit 363)), (.int (.ofNat (nat_lit 33)) (nat_lit 0)), (.int (.ofNat (nat_lit 0)) (nat_lit 0)), (.int (.ofNat (nat_lit 0)) (nat_lit 0)), (.int (.ofNat (nat_lit 0)) (nat_lit 0)), (.int (.ofNat (nat_lit 0)) (nat_lit 0)), (.ref (nat_lit 159)), (.bool false), (.int (.ofNat (nat_lit 181)) (nat_lit 0)), (.ref (nat_lit 160)), .none, .none, .none, .none, (.int (.ofNat (nat_lit 364)) (nat_lit 0)), (.int (.ofNat (nat_lit 33)) (nat_lit 0)), (.str x164 (nat_lit 365))]), #[]⟩
noncomputable def o162_8 (P : Params) : Obj := ⟨(.type "frame"), none, .plain, #[(some (.ref (nat_lit 161))), (some (.ref (nat_lit 3))), (some (.ref (nat_lit 158))), none, (some (.str x169 (nat_lit 194))), none, (some (.ref (nat_lit 0)))]⟩
noncomputable def o163_8 (P : Params) : Obj := ⟨(.type "tuple"), none, (.seq #[] (nat_lit 0)), #[]⟩
noncomputable def o164_8 (P : Params) : Obj := ⟨.none, none, (.fields #[]), #[]⟩
noncomputable def o165_8 (P : Params) : Obj := ⟨(.type "tuple"), none, (.seq #[(.str x176 (nat_lit 374))] (nat_lit 0)), #[]⟩
noncomputable def o166_8 (P : Params) : Obj := ⟨(.type "tuple"), none, (.seq #[] (nat_lit 0)), #[]⟩
noncomputable def o167_8 (P : Params) : Obj := ⟨.none, none, (.func ⟨x174, x192, L2.defArgs (L2.inClass (ht 9) 0), .stmts (L2.defBody (L2.inClass (ht 9) 0)), L2.defScope (L2.inClass (ht 9) 0), (nat_lit 0), [], .none, .none, .none, .none, none, .none, .none, (nat_lit 0)⟩), #[]⟩
noncomputable def o168_8 (P : Params) : Obj := ⟨(.type "code"), none, (.fields #[(.str x174 (nat_lit 371)), (.str x192 (nat_lit 372)), (.str x164 (nat_lit 373)), (.int (.ofNat (nat_lit 35)) (nat_lit 0)), (.int (.ofNat (nat_lit 1)) (nat_lit 0)), (.int (.ofNat (nat_lit 0)) (nat_lit 0)), (.int (.ofNat (nat_lit 0)) (nat_lit 0)), (.int (.ofNat (nat_lit 3)) (nat_lit 0)), (.ref (nat_lit 163)), (.bool true), (.int (.ofNat (nat_lit 181)) (nat_lit 0)), (.ref (nat_lit 164)), .none, (.ref (nat_lit 165)), (.ref (nat_lit 166)), (.ref (nat_lit 167)), (.int (.ofNat (nat_lit 375)) (nat_lit 0)), (.int (.ofNat (nat_lit 35)) (nat_lit 0)), (.str x164 (nat_lit 376))]), #[]⟩
noncomputable def o169_8 (P : Params) : Obj := ⟨(.type "function"), none, (.func ⟨x174, x192, L2.defArgs (L2.inClass (ht 9) 0), .stmts (L2.defBody (L2.inClass (ht 9) 0)), L2.defScope (L2.inClass (ht 9) 0), (nat_lit 3), [], .none, .none, .none, (.str x169 (nat_lit 194)), none, (.ref (nat_lit 168)), .none, (nat_lit 0)⟩), #[]⟩
noncomputable def o170_8 (P : Params) : Obj := ⟨(.type "tuple"), none, (.seq #[] (nat_lit 0)), #[]⟩
noncomputable def o171_8 (P : Params) : Obj := ⟨(.type "dict"), none, (.dict #[⟨(PyData.keyHash P x171), (.str x171 (nat_lit 366)), (.str x169 (nat_lit 194))⟩, ⟨(PyData.keyHash P x173), (.str x173 (nat_lit 370)), (.int (.ofNat (nat_lit 33)) (nat_lit 369))⟩, ⟨(PyData.keyHash P x174), (.str x174 (nat_lit 377)), (.ref (nat_lit 169))⟩, ⟨(PyData.keyHash P x175), (.str x175 (nat_lit 378)), (.ref (nat_lit 170))⟩, ⟨(PyData.keyHash P x2), (.str x2 (nat_lit 379)), .none⟩] (nat_lit 2)), #[]⟩
noncomputable def o172_8 (P : Params) : Obj := ⟨(.type "type"), none, (.cls ⟨x191, [(.ref (nat_lit 38))], [(.ref (nat_lit 172)), (.ref (nat_lit 38)), (.type "ValueError"), (.type "Exception"), (.type "BaseException"), (.type "object")], (nat_lit 171), x191, true, [], [], false, none, false⟩), #[(some (.ref (nat_lit 156))), none, (some (.str x191 (nat_lit 359))), (some (.str x191 (nat_lit 367))), (some (.builtin "ValueError.__new__")), (some (.bool true))]⟩
noncomputable def o173_8 (P : Params) : Obj := ⟨(.type "super"), none, (.fields #[(.ref (nat_lit 172)), (.ref (nat_lit 172)), (.ref (nat_lit 172))]), #[]⟩
noncomputable def o174_8 (P : Params) : Obj := ⟨(.type "builtin_function_or_method"), none, (.fields #[(.builtin "object.__init_subclass__"), (.ref (nat_lit 172))]), #[]⟩
noncomputable def g8 : List Stmt := [ht 9]
noncomputable def T8 (P : Params) : BT := (((((((((((((((((((((((T7 P).ins (nat_lit 3) (o3_8 P)).ins (nat_lit 12) (o12_8 P)).ins (nat_lit 38) (o38_8 P)).ins (nat_lit 156) (o156_8 P)).ins (nat_lit 157) (o157_8 P)).ins (nat_lit 158) (o158_8 P)).ins (nat_lit 159) (o159_8 P)).ins (nat_lit 160) (o160_8 P)).ins (nat_lit 161) (o161_8 P)).ins (nat_lit 162) (o162_8 P)).ins (nat_lit 163) (o163_8 P)).ins (nat_lit 164) (o164_8 P)).ins (nat_lit 165) (o165_8 P)).ins (nat_lit 166) (o166_8 P)).ins (nat_lit 167) (o167_8 P)).ins (nat_lit 168) (o168_8 P)).ins (nat_lit 169) (o169_8 P)).ins (nat_lit 170) (o170_8 P)).ins (nat_lit 171) (o171_8 P)).ins (nat_lit 172) (o172_8 P)).ins (nat_lit 173) (o173_8 P)).ins (nat_lit 174) (o174_8 P))
noncomputable def lf8 : Life := ⟨[], [], [], (nat_lit 0), [], [], false, #[], [], (nat_lit 0), false, false, false, (.ofNat (nat_lit 0)), [(.ofNat (nat_lit 2000)), (.ofNat (nat_lit 10)), (.ofNat (nat_lit 10))], false, (nat_lit 0), true, [], [], (nat_lit 0), false⟩
noncomputable abbrev S8 (w : World) (os : OsState) : SharedT := ⟨T8 w.params, nat_lit 175, lf8, Array.mk [], ⟨(nat_lit 0), (nat_lit 0), (nat_lit 0), (nat_lit 0)⟩, nat_lit 382, os⟩
noncomputable def q8 (w : World) : (OsState → Option (Flow × SharedT × Code × Pos)) × (OsState → Option (Flow × SharedT × Code × Pos)) := (fun os => segRunT treeTable pw w (nat_lit 11) (some (.ref (nat_lit 6))) (nat_lit 1) (nat_lit 244) (S7 w os) (piecesOf g8 hE hC ⟨(nat_lit 29), (nat_lit 0), (nat_lit 32), (nat_lit 16)⟩ hB), fun os => some (Flow.next, S8 w os, hC, ⟨(nat_lit 33), (nat_lit 0), (nat_lit 36), (nat_lit 16)⟩))
theorem q8_eq : HD.seg pw (nat_lit 11) (some (.ref (nat_lit 6))) (nat_lit 244) S7 S8 g8 hE hC ⟨(nat_lit 29), (nat_lit 0), (nat_lit 32), (nat_lit 16)⟩ ⟨(nat_lit 33), (nat_lit 0), (nat_lit 36), (nat_lit 16)⟩ hB = q8 := by kernel_rfl
name_quick YK408 for q8 by q8_eq
theorem i8 (w : World) : (Fast.YK408 w).1 = (Fast.YK408 w).2 := by kernel_rfl
theorem h8 : HD.Ok (HD.seg pw (nat_lit 11) (some (.ref (nat_lit 6))) (nat_lit 244) S7 S8 g8 hE hC ⟨(nat_lit 29), (nat_lit 0), (nat_lit 32), (nat_lit 16)⟩ ⟨(nat_lit 33), (nat_lit 0), (nat_lit 36), (nat_lit 16)⟩ hB) := HD.by1 Fast.YK408_eq i8
noncomputable def o3_9 (P : Params) : Obj := ⟨(.type "dict"), none, (.dict #[⟨(PyData.keyHash P x0), (.str x0 (nat_lit 165)), (.str x169 (nat_lit 194))⟩, ⟨(PyData.keyHash P x2), (.str x2 (nat_lit 166)), .none⟩, ⟨(PyData.keyHash P x3), (.str x3 (nat_lit 167)), .none⟩, ⟨(PyData.keyHash P x4), (.str x4 (nat_lit 168)), (.builtin "__main__.__loader__#opaque")⟩, ⟨(PyData.keyHash P x5), (.str x5 (nat_lit 169)), .none⟩, ⟨(PyData.keyHash P x161), (.str x161 (nat_lit 170)), (.ref (nat_lit 6))⟩, ⟨(PyData.keyHash P x162), (.str x162 (nat_lit 171)), (.ref (nat_lit 4))⟩, ⟨(PyData.keyHash P x163), (.str x163 (nat_lit 173)), (.str x164 (nat_lit 172))⟩, ⟨(PyData.keyHash P x165), (.str x165 (nat_lit 174)), .none⟩, ⟨(PyData.keyHash P x167), (.str x167 (nat_lit 193)), (.ref (nat_lit 21))⟩, ⟨(PyData.keyHash P x170), (.str x170 (nat_lit 220)), (.ref (nat_lit 38))⟩, ⟨(PyData.keyHash P x179), (.str x179 (nat_lit 243)), (.ref (nat_lit 58))⟩, ⟨(PyData.keyHash P x181), (.str x181 (nat_lit 266)), (.ref (nat_lit 77))⟩, ⟨(PyData.keyHash P x183), (.str x183 (nat_lit 289)), (.ref (nat_lit 96))⟩, ⟨(PyData.keyHash P x185), (.str x185 (nat_lit 312)), (.ref (nat_lit 115))⟩, ⟨(PyData.keyHash P x187), (.str x187 (nat_lit 335)), (.ref (nat_lit 134))⟩, ⟨(PyData.keyHash P x189), (.str x189 (nat_lit 358)), (.ref (nat_lit 153))⟩, ⟨(PyData.keyHash P x191), (.str x191 (nat_lit 381)), (.ref (nat_lit 172))⟩, ⟨(PyData.keyHash P x193), (.str x193 (nat_lit 404)), (.ref (nat_lit 191))⟩] (nat_lit 19)), #[]⟩
noncomputable def o12_9 (P : Params) : Obj := ⟨.none, none, (.fields #[(.int (.ofNat (nat_lit 1)) (nat_lit 0)), (.int (.ofNat (nat_lit 0)) (nat_lit 0)), (.ref (nat_lit 20)), (.int (.ofNat (nat_lit 5)) (nat_lit 0)), (.int (.ofNat (nat_lit 0)) (nat_lit 0)), (.ref (nat_lit 27)), (.int (.ofNat (nat_lit 9)) (nat_lit 0)), (.int (.ofNat (nat_lit 0)) (nat_lit 0)), (.ref (nat_lit 47)), (.int (.ofNat (nat_lit 13)) (nat_lit 0)), (.int (.ofNat (nat_lit 0)) (nat_lit 0)), (.ref (nat_lit 66)), (.int (.ofNat (nat_lit 17)) (nat_lit 0)), (.int (.ofNat (nat_lit 0)) (nat_lit 0)), (.ref (nat_lit 85)), (.int (.ofNat (nat_lit 21)) (nat_lit 0)), (.int (.ofNat (nat_lit 0)) (nat_lit 0)), (.ref (nat_lit 104)), (.int (.ofNat (nat_lit 25)) (nat_lit 0)), (.int (.ofNat (nat_lit 0)) (nat_lit 0)), (.ref (nat_lit 123)), (.int (.ofNat (nat_lit 29)) (nat_lit 0)), (.int (.ofNat (nat_lit 0)) (nat_lit 0)), (.ref (nat_lit 142)), (.int (.ofNat (nat_lit 33)) (nat_lit 0)), (.int (.ofNat (nat_lit 0)) (nat_lit 0)), (.ref (nat_lit 161)), (.int (.ofNat (nat_lit 37)) (nat_lit 0)), (.int (.ofNat (nat_lit 0)) (nat_lit 0)), (.ref (nat_lit 180))]), #[]⟩
noncomputable def o38_9 (P : Params) : Obj := ⟨(.type "type"), none, (.cls ⟨x170, [(.type "ValueError")], [(.ref (nat_lit 38)), (.type "ValueError"), (.type "Exception"), (.type "BaseException"), (.type "object")], (nat_lit 37), x170, true, [], [(.ref (nat_lit 58)), (.ref (nat_lit 77)), (.ref (nat_lit 96)), (.ref (nat_lit 115)), (.ref (nat_lit 134)), (.ref (nat_lit 153)), (.ref (nat_lit 172)), (.ref (nat_lit 191))], false, none, false⟩), #[(some (.ref (nat_lit 22))), none, (some (.str x170 (nat_lit 196))), (some (.str x170 (nat_lit 204))), (some (.builtin "ValueError.__new__")), (some (.bool true))]⟩
noncomputable def o175_9 (P : Params) : Obj := ⟨(.type "tuple"), none, (.seq #[(.ref (nat_lit 38))] (nat_lit 0)), #[]⟩
noncomputable def o176_9 (P : Params) : Obj := ⟨(.type "builtin_function_or_method"), none, (.fields #[(.builtin "type.__prepare__"), (.type "type")]), #[]⟩
noncomputable def o177_9 (P : Params) : Obj := ⟨(.type "dict"), none, (.dict #[⟨(PyData.keyHash P x171), (.str x171 (nat_lit 389)), (.str x169 (nat_lit 194))⟩, ⟨(PyData.keyHash P x172), (.str x172 (nat_lit 391)), (.str x193 (nat_lit 390))⟩, ⟨(PyData.keyHash P x173), (.str x173 (nat_lit 393)), (.int (.ofNat (nat_lit 37)) (nat_lit 392))⟩, ⟨(PyData.keyHash P x174), (.str x174 (nat_lit 400)), (.ref (nat_lit 188))⟩, ⟨(PyData.keyHash P x175), (.str x175 (nat_lit 401)), (.ref (nat_lit 189))⟩] (nat_lit 5)), #[]⟩
noncomputable def o178_9 (P : Params) : Obj := ⟨(.type "tuple"), none, (.seq #[] (nat_lit 0)), #[]⟩
noncomputable def o179_9 (P : Params) : Obj := ⟨.none, none, (.fields #[(.int (.ofNat (nat_lit 39)) (nat_lit 0)), (.int (.ofNat (nat_lit 4)) (nat_lit 0)), (.ref (nat_lit 187))]), #[]⟩
noncomputable def o180_9 (P : Params) : Obj := ⟨(.type "code"), none, (.fields #[(.str x193 (nat_lit 384)), (.str x193 (nat_lit 385)), (.str x164 (nat_lit 386)), (.int (.ofNat (nat_lit 37)) (nat_lit 0)), (.int (.ofNat (nat_lit 0)) (nat_lit 0)), (.int (.ofNat (nat_lit 0)) (nat_lit 0)), (.int (.ofNat (nat_lit 0)) (nat_lit 0)), (.int (.ofNat (nat_lit 0)) (nat_lit 0)), (.ref (nat_lit 178)), (.bool false), (.int (.ofNat (nat_lit 181)) (nat_lit 0)), (.ref (nat_lit 179)), .none, .none, .none, .none, (.int (.ofNat (nat_lit 387)) (nat_lit 0)), (.int (.ofNat (nat_lit 37)) (nat_lit 0)), (.str x164 (nat_lit 388))]), #[]⟩
noncomputable def o181_9 (P : Params) : Obj := ⟨(.type "frame"), none, .plain, #[(some (.ref (nat_lit 180))), (some (.ref (nat_lit 3))), (some (.ref (nat_lit 177))), none, (some (.str x169 (nat_lit 194))), none, (some (.ref (nat_lit 0)))]⟩
noncomputable def o182_9 (P : Params) : Obj := ⟨(.type "tuple"), none, (.seq #[] (nat_lit 0)), #[]⟩
noncomputable def o183_9 (P : Params) : Obj := ⟨.none, none, (.fields #[]), #[]⟩
noncomputable def o184_9 (P : Params) : Obj := ⟨(.type "tuple"), none, (.seq #[(.str x176 (nat_lit 397))] (nat_lit 0)), #[]⟩
noncomputable def o185_9 (P : Params) : Obj := ⟨(.type "tuple"), none, (.seq #[] (nat_lit 0)), #[]⟩
noncomputable def o186_9 (P : Params) : Obj := ⟨.none, none, (.func ⟨x174, x194, L2.defArgs (L2.inClass (ht 10) 0), .stmts (L2.defBody (L2.inClass (ht 10) 0)), L2.defScope (L2.inClass (ht 10) 0), (nat_lit 0), [], .none, .none, .none, .none, none, .none, .none, (nat_lit 0)⟩), #[]⟩
noncomputable def o187_9 (P : Params) : Obj := ⟨(.type "code"), none, (.fields #[(.str x174 (nat_lit 394)), (.str x194 (nat_lit 395)), (.str x164 (nat_lit 396)), (.int (.ofNat (nat_lit 39)) (nat_lit 0)), (.int (.ofNat (nat_lit 1)) (nat_lit 0)), (.int (.ofNat (nat_lit 0)) (nat_lit 0)), (.int (.ofNat (nat_lit 0)) (nat_lit 0)), (.int (.ofNat (nat_lit 3)) (nat_lit 0)), (.ref (nat_lit 182)), (.bool true), (.int (.ofNat (nat_lit 181)) (nat_lit 0)), (.ref (nat_lit 183)), .none, (.ref (nat_lit 184)), (.ref (nat_lit 185)), (.ref (nat_lit 186)), (.int (.ofNat (nat_lit 398)) (nat_lit 0)), (.int (.ofNat (nat_lit 39)) (nat_lit 0)), (.str x164 (nat_lit 399))]), #[]⟩
noncomputable def o188_9 (P : Params) : Obj := ⟨(.type "function"), none, (.func ⟨x174, x194, L2.defArgs (L2.inClass (ht 10) 0), .stmts (L2.defBody (L2.inClass (ht 10) 0)), L2.defScope (L2.inClass (ht 10) 0), (nat_lit 3), [], .none, .none, .none, (.str x169 (nat_lit 194)), none, (.ref (nat_lit 187)), .none, (nat_lit 0)⟩), #[]⟩
noncomputable def o189_9 (P : Params) : Obj := ⟨(.type "tuple"), none, (.seq #[] (nat_lit 0)), #[]⟩
noncomputable def o190_9 (P : Params) : Obj := ⟨(.type "dict"), none, (.dict #[⟨(PyData.keyHash P x171), (.str x171 (nat_lit 389)), (.str x169 (nat_lit 194))⟩, ⟨(PyData.keyHash P x173), (.str x173 (nat_lit 393)), (.int (.ofNat (nat_lit 37)) (nat_lit 392))⟩, ⟨(PyData.keyHash P x174), (.str x174 (nat_lit 400)), (.ref (nat_lit 188))⟩, ⟨(PyData.keyHash P x175), (.str x175 (nat_lit 401)), (.ref (nat_lit 189))⟩, ⟨(PyData.keyHash P x2), (.str x2 (nat_lit 402)), .none⟩] (nat_lit 2)), #[]⟩
noncomputable def o191_9 (P : Params) : Obj := ⟨(.type "type"), none, (.cls ⟨x193, [(.ref (nat_lit 38))], [(.ref (nat_lit 191)), (.ref (nat_lit 38)), (.type "ValueError"), (.type "Exception"), (.type "BaseException"), (.type "object")], (nat_lit 190), x193, true, [], [], false, none, false⟩), #[(some (.ref (nat_lit 175))), none, (some (.str x193 (nat_lit 382))), (some (.str x193 (nat_lit 390))), (some (.builtin "ValueError.__new__")), (some (.bool true))]⟩
noncomputable def o192_9 (P : Params) : Obj := ⟨(.type "super"), none, (.fields #[(.ref (nat_lit 191)), (.ref (nat_lit 191)), (.ref (nat_lit 191))]), #[]⟩
noncomputable def o193_9 (P : Params) : Obj := ⟨(.type "builtin_function_or_method"), none, (.fields #[(.builtin "object.__init_subclass__"), (.ref (nat_lit 191))]), #[]⟩
noncomputable def g9 : List Stmt := [ht 10]
noncomputable def T9 (P : Params) : BT := (((((((((((((((((((((((T8 P).ins (nat_lit 3) (o3_9 P)).ins (nat_lit 12) (o12_9 P)).ins (nat_lit 38) (o38_9 P)).ins (nat_lit 175) (o175_9 P)).ins (nat_lit 176) (o176_9 P)).ins (nat_lit 177) (o177_9 P)).ins (nat_lit 178) (o178_9 P)).ins (nat_lit 179) (o179_9 P)).ins (nat_lit 180) (o180_9 P)).ins (nat_lit 181) (o181_9 P)).ins (nat_lit 182) (o182_9 P)).ins (nat_lit 183) (o183_9 P)).ins (nat_lit 184) (o184_9 P)).ins (nat_lit 185) (o185_9 P)).ins (nat_lit 186) (o186_9 P)).ins (nat_lit 187) (o187_9 P)).ins (nat_lit 188) (o188_9 P)).ins (nat_lit 189) (o189_9 P)).ins (nat_lit 190) (o190_9 P)).ins (nat_lit 191) (o191_9 P)).ins (nat_lit 192) (o192_9 P)).ins (nat_lit 193) (o193_9 P))
noncomputable def lf9 : Life := ⟨[], [], [], (nat_lit 0), [], [], false, #[], [], (nat_lit 0), false, false, false, (.ofNat (nat_lit 0)), [(.ofNat (nat_lit 2000)), (.ofNat (nat_lit 10)), (.ofNat (nat_lit 10))], false, (nat_lit 0), true, [], [], (nat_lit 0), false⟩
noncomputable abbrev S9 (w : World) (os : OsState) : SharedT := ⟨T9 w.params, nat_lit 194, lf9, Array.mk [], ⟨(nat_lit 0), (nat_lit 0), (nat_lit 0), (nat_lit 0)⟩, nat_lit 405, os⟩
noncomputable def q9 (w : World) : (OsState → Option (Flow × SharedT × Code × Pos)) × (OsState → Option (Flow × SharedT × Code × Pos)) := (fun os => segRunT treeTable pw w (nat_lit 11) (some (.ref (nat_lit 6))) (nat_lit 1) (nat_lit 244) (S8 w os) (piecesOf g9 hE hC ⟨(nat_lit 33), (nat_lit 0), (nat_lit 36), (nat_lit 16)⟩ hB), fun os => some (Flow.next, S9 w os, hC, ⟨(nat_lit 37), (nat_lit 0), (nat_lit 40), (nat_lit 16)⟩))
theorem q9_eq : HD.seg pw (nat_lit 11) (some (.ref (nat_lit 6))) (nat_lit 244) S8 S9 g9 hE hC ⟨(nat_lit 33), (nat_lit 0), (nat_lit 36), (nat_lit 16)⟩ ⟨(nat_lit 37), (nat_lit 0), (nat_lit 40), (nat_lit 16)⟩ hB = q9 := by kernel_rfl
name_quick YK409 for q9 by q9_eq
theorem i9 (w : World) : (Fast.YK409 w).1 = (Fast.YK409 w).2 := by kernel_rfl
theorem h9 : HD.Ok (HD.seg pw (nat_lit 11) (some (.ref (nat_lit 6))) (nat_lit 244) S8 S9 g9 hE hC ⟨(nat_lit 33), (nat_lit 0), (nat_lit 36), (nat_lit 16)⟩ ⟨(nat_lit 37), (nat_lit 0), (nat_lit 40), (nat_lit 16)⟩ hB) := HD.by1 Fast.YK409_eq i9
noncomputable def o3_10 (P : Params) : Obj := ⟨(.type "dict"), none, (.dict #[⟨(PyData.keyHash P x0), (.str x0 (nat_lit 165)), (.str x169 (nat_lit 194))⟩, ⟨(PyData.keyHash P x2), (.str x2 (nat_lit 166)), .none⟩, ⟨(PyData.keyHash P x3), (.str x3 (nat_lit 167)), .none⟩, ⟨(PyData.keyHash P x4), (.str x4 (nat_lit 168)), (.builtin "__main__.__loader__#opaque")⟩, ⟨(PyData.keyHash P x5), (.str x5 (nat_lit 169)), .none⟩, ⟨(PyData.keyHash P x161), (.str x161 (nat_lit 170)), (.ref (nat_lit 6))⟩, ⟨(PyData.keyHash P x162), (.str x162 (nat_lit 171)), (.ref (nat_lit 4))⟩, ⟨(PyData.keyHash P x163), (.str x163 (nat_lit 173)), (.str x164 (nat_lit 172))⟩, ⟨(PyData.keyHash P x165), (.str x165 (nat_lit 174)), .none⟩, ⟨(PyData.keyHash P x167), (.str x167 (nat_lit 193)), (.ref (nat_lit 21))⟩, ⟨(PyData.keyHash P x170), (.str x170 (nat_lit 220)), (.ref (nat_lit 38))⟩, ⟨(PyData.keyHash P x179), (.str x179 (nat_lit 243)), (.ref (nat_lit 58))⟩, ⟨(PyData.keyHash P x181), (.str x181 (nat_lit 266)), (.ref (nat_lit 77))⟩, ⟨(PyData.keyHash P x183), (.str x183 (nat_lit 289)), (.ref (nat_lit 96))⟩, ⟨(PyData.keyHash P x185), (.str x185 (nat_lit 312)), (.ref (nat_lit 115))⟩, ⟨(PyData.keyHash P x187), (.str x187 (nat_lit 335)), (.ref (nat_lit 134))⟩, ⟨(PyData.keyHash P x189), (.str x189 (nat_lit 358)), (.ref (nat_lit 153))⟩, ⟨(PyData.keyHash P x191), (.str x191 (nat_lit 381)), (.ref (nat_lit 172))⟩, ⟨(PyData.keyHash P x193), (.str x193 (nat_lit 404)), (.ref (nat_lit 191))⟩, ⟨(PyData.keyHash P x195), (.str x195 (nat_lit 427)), (.ref (nat_lit 210))⟩] (nat_lit 20)), #[]⟩
noncomputable def o12_10 (P : Params) : Obj := ⟨.none, none, (.fields #[(.int (.ofNat (nat_lit 1)) (nat_lit 0)), (.int (.ofNat (nat_lit 0)) (nat_lit 0)), (.ref (nat_lit 20)), (.int (.ofNat (nat_lit 5)) (nat_lit 0)), (.int (.ofNat (nat_lit 0)) (nat_lit 0)), (.ref (nat_lit 27)), (.int (.ofNat (nat_lit 9)) (nat_lit 0)), (.int (.ofNat (nat_lit 0)) (nat_lit 0)), (.ref (nat_lit 47)), (.int (.ofNat (nat_lit 13)) (nat_lit 0)), (.int (.ofNat (nat_lit 0)) (nat_lit 0)), (.ref (nat_lit 66)), (.int (.ofNat (nat_lit 17)) (nat_lit 0)), (.int (.ofNat (nat_lit 0)) (nat_lit 0)), (.ref (nat_lit 85)), (.int (.ofNat (nat_lit 21)) (nat_lit 0)), (.int (.ofNat (nat_lit 0)) (nat_lit 0)), (.ref (nat_lit 104)), (.int (.ofNat (nat_lit 25)) (nat_lit 0)), (.int (.ofNat (nat_lit 0)) (nat_lit 0)), (.ref (nat_lit 123)), (.int (.ofNat (nat_lit 29)) (nat_lit 0)), (.int (.ofNat (nat_lit 0)) (nat_lit 0)), (.ref (nat_lit 142)), (.int (.ofNat (nat_lit 33)) (nat_lit 0)), (.int (.ofNat (nat_lit 0)) (nat_lit 0)), (.ref (nat_lit 161)), (.int (.ofNat (nat_lit 37)) (nat_lit 0)), (.int (.ofNat (nat_lit 0)) (nat_lit 0)), (.ref (nat_lit 180)), (.int (.ofNat (nat_lit 41)) (nat_lit 0)), (.int (.ofNat (nat_lit 0)) (nat_lit 0)), (.ref (nat_lit 199))]), #[]⟩
noncomputable def o38_10 (P : Params) : Obj := ⟨(.type "type"), none, (.cls ⟨x170, [(.type "ValueError")], [(.ref (nat_lit 38)), (.type "ValueError"), (.type "Exception"), (.type "BaseException"), (.type "object")], (nat_lit 37), x170, true, [], [(.ref (nat_lit 58)), (.ref (nat_lit 77)), (.ref (nat_lit 96)), (.ref (nat_lit 115)), (.ref (nat_lit 134)), (.ref (nat_lit 153)), (.ref (nat_lit 172)), (.ref (nat_lit 191)), (.ref (nat_lit 210))], false, none, false⟩), #[(some (.ref (nat_lit 22))), none, (some (.str x170 (nat_lit 196))), (some (.str x170 (nat_lit 204))), (some (.builtin "ValueError.__new__")), (some (.bool true))]⟩
noncomputable def o194_10 (P : Params) : Obj := ⟨(.type "tuple"), none, (.seq #[(.ref (nat_lit 38))] (nat_lit 0)), #[]⟩
noncomputable def o195_10 (P : Params) : Obj := ⟨(.type "builtin_function_or_method"), none, (.fields #[(.builtin "type.__prepare__"), (.type "type")]), #[]⟩
noncomputable def o196_10 (P : Params) : Obj := ⟨(.type "dict"), none, (.dict #[⟨(PyData.keyHash P x171), (.str x171 (nat_lit 412)), (.str x169 (nat_lit 194))⟩, ⟨(PyData.keyHash P x172), (.str x172 (nat_lit 414)), (.str x195 (nat_lit 413))⟩, ⟨(PyData.keyHash P x173), (.str x173 (nat_lit 416)), (.int (.ofNat (nat_lit 41)) (nat_lit 415))⟩, ⟨(PyData.keyHash P x174), (.str x174 (nat_lit 423)), (.ref (nat_lit 207))⟩, ⟨(PyData.keyHash P x175), (.str x175 (nat_lit 424)), (.ref (nat_lit 208))⟩] (nat_lit 5)), #[]⟩
noncomputable def o197_10 (P : Params) : Obj := ⟨(.type "tuple"), none, (.seq #[] (nat_lit 0)), #[]⟩
noncomputable def o198_10 (P : Params) : Obj := ⟨.none, none, (.fields #[(.int (.ofNat (nat_lit 43)) (nat_lit 0)), (.int (.ofNat (nat_lit 4)) (nat_lit 0)), (.ref (nat_lit 206))]), #[]⟩
noncomputable def o199_10 (P : Params) : Obj := ⟨(.type "code"), none, (.fields #[(.str x195 (nat_lit 407)), (.str x195 (nat_lit 408)), (.str x164 (nat_lit 409)), (.int (.ofNat (nat_lit 41)) (nat_lit 0)), (.int (.ofNat (nat_lit 0)) (nat_lit 0)), (.int (.ofNat (nat_lit 0)) (nat_lit 0)), (.int (.ofNat (nat_lit 0)) (nat_lit 0)), (.int (.ofNat (nat_lit 0)) (nat_lit 0)), (.ref (nat_lit 197)), (.bool false), (.int (.ofNat (nat_lit 181)) (nat_lit 0)), (.ref (nat_lit 198)), .none, .none, .none, .none, (.int (.ofNat (nat_lit 410)) (nat_lit 0)), (.int (.ofNat (nat_lit 41)) (nat_lit 0)), (.str x164 (nat_lit 411))]), #[]⟩
noncomputable def o200_10 (P : Params) : Obj := ⟨(.type "frame"), none, .plain, #[(some (.ref (nat_lit 199))), (some (.ref (nat_lit 3))), (some (.ref (nat_lit 196))), none, (some (.str x169 (nat_lit 194))), none, (some (.ref (nat_lit 0)))]⟩
noncomputable def o201_10 (P : Params) : Obj := ⟨(.type "tuple"), none, (.seq #[] (nat_lit 0)), #[]⟩
noncomputable def o202_10 (P : Params) : Obj := ⟨.none, none, (.fields #[]), #[]⟩
noncomputable def o203_10 (P : Params) : Obj := ⟨(.type "tuple"), none, (.seq #[(.str x176 (nat_lit 420))] (nat_lit 0)), #[]⟩
noncomputable def o204_10 (P : Params) : Obj := ⟨(.type "tuple"), none, (.seq #[] (nat_lit 0)), #[]⟩
noncomputable def o205_10 (P : Params) : Obj := ⟨.none, none, (.func ⟨x174, x196, L2.defArgs (L2.inClass (ht 11) 0), .stmts (L2.defBody (L2.inClass (ht 11) 0)), L2.defScope (L2.inClass (ht 11) 0), (nat_lit 0), [], .none, .none, .none, .none, none, .none, .none, (nat_lit 0)⟩), #[]⟩
noncomputable def o206_10 (P : Params) : Obj := ⟨(.type "code"), none, (.fields #[(.str x174 (nat_lit 417)), (.str x196 (nat_lit 418)), (.str x164 (nat_lit 419)), (.int (.ofNat (nat_lit 43)) (nat_lit 0)), (.int (.ofNat (nat_lit 1)) (nat_lit 0)), (.int (.ofNat (nat_lit 0)) (nat_lit 0)), (.int (.ofNat (nat_lit 0)) (nat_lit 0)), (.int (.ofNat (nat_lit 3)) (nat_lit 0)), (.ref (nat_lit 201)), (.bool true), (.int (.ofNat (nat_lit 181)) (nat_lit 0)), (.ref (nat_lit 202)), .none, (.ref (nat_lit 203)), (.ref (nat_lit 204)), (.ref (nat_lit 205)), (.int (.ofNat (nat_lit 421)) (nat_lit 0)), (.int (.ofNat (nat_lit 43)) (nat_lit 0)), (.str x164 (nat_lit 422))]), #[]⟩
noncomputable def o207_10 (P : Params) : Obj := ⟨(.type "function"), none, (.func ⟨x174, x196, L2.defArgs (L2.inClass (ht 11) 0), .stmts (L2.defBody (L2.inClass (ht 11) 0)), L2.defScope (L2.inClass (ht 11) 0), (nat_lit 3), [], .none, .none, .none, (.str x169 (nat_lit 194)), none, (.ref (nat_lit 206)), .none, (nat_lit 0)⟩), #[]⟩
noncomputable def o208_10 (P : Params) : Obj := ⟨(.type "tuple"), none, (.seq #[] (nat_lit 0)), #[]⟩
noncomputable def o209_10 (P : Params) : Obj := ⟨(.type "dict"), none, (.dict #[⟨(PyData.keyHash P x171), (.str x171 (nat_lit 412)), (.str x169 (nat_lit 194))⟩, ⟨(PyData.keyHash P x173), (.str x173 (nat_lit 416)), (.int (.ofNat (nat_lit 41)) (nat_lit 415))⟩, ⟨(PyData.keyHash P x174), (.str x174 (nat_lit 423)), (.ref (nat_lit 207))⟩, ⟨(PyData.keyHash P x175), (.str x175 (nat_lit 424)), (.ref (nat_lit 208))⟩, ⟨(PyData.keyHash P x2), (.str x2 (nat_lit 425)), .none⟩] (nat_lit 2)), #[]⟩
noncomputable def o210_10 (P : Params) : Obj := ⟨(.type "type"), none, (.cls ⟨x195, [(.ref (nat_lit 38))], [(.ref (nat_lit 210)), (.ref (nat_lit 38)), (.type "ValueError"), (.type "Exception"), (.type "BaseException"), (.type "object")], (nat_lit 209), x195, true, [], [], false, none, false⟩), #[(some (.ref (nat_lit 194))), none, (some (.str x195 (nat_lit 405))), (some (.str x195 (nat_lit 413))), (some (.builtin "ValueError.__new__")), (some (.bool true))]⟩
noncomputable def o211_10 (P : Params) : Obj := ⟨(.type "super"), none, (.fields #[(.ref (nat_lit 210)), (.ref (nat_lit 210)), (.ref (nat_lit 210))]), #[]⟩
noncomputable def o212_10 (P : Params) : Obj := ⟨(.type "builtin_function_or_method"), none, (.fields #[(.builtin "object.__init_subclass__"), (.ref (nat_lit 210))]), #[]⟩
noncomputable def g10 : List Stmt := [ht 11]
noncomputable def T10 (P : Params) : BT := (((((((((((((((((((((((T9 P).ins (nat_lit 3) (o3_10 P)).ins (nat_lit 12) (o12_10 P)).ins (nat_lit 38) (o38_10 P)).ins (nat_lit 194) (o194_10 P)).ins (nat_lit 195) (o195_10 P)).ins (nat_lit 196) (o196_10 P)).ins (nat_lit 197) (o197_10 P)).ins (nat_lit 198) (o198_10 P)).ins (nat_lit 199) (o199_10 P)).ins (nat_lit 200) (o200_10 P)).ins (nat_lit 201) (o201_10 P)).ins (nat_lit 202) (o202_10 P)).ins (nat_lit 203) (o203_10 P)).ins (nat_lit 204) (o204_10 P)).ins (nat_lit 205) (o205_10 P)).ins (nat_lit 206) (o206_10 P)).ins (nat_lit 207) (o207_10 P)).ins (nat_lit 208) (o208_10 P)).ins (nat_lit 209) (o209_10 P)).ins (nat_lit 210) (o210_10 P)).ins (nat_lit 211) (o211_10 P)).ins (nat_lit 212) (o212_10 P))
noncomputable def lf10 : Life := ⟨[], [], [], (nat_lit 0), [], [], false, #[], [], (nat_lit 0), false, false, false, (.ofNat (nat_lit 0)), [(.ofNat (nat_lit 2000)), (.ofNat (nat_lit 10)), (.ofNat (nat_lit 10))], false, (nat_lit 0), true, [], [], (nat_lit 0), false⟩
noncomputable abbrev S10 (w : World) (os : OsState) : SharedT := ⟨T10 w.params, nat_lit 213, lf10, Array.mk [], ⟨(nat_lit 0), (nat_lit 0), (nat_lit 0), (nat_lit 0)⟩, nat_lit 428, os⟩
noncomputable def q10 (w : World) : (OsState → Option (Flow × SharedT × Code × Pos)) × (OsState → Option (Flow × SharedT × Code × Pos)) := (fun os => segRunT treeTable pw w (nat_lit 11) (some (.ref (nat_lit 6))) (nat_lit 1) (nat_lit 244) (S9 w os) (piecesOf g10 hE hC ⟨(nat_lit 37), (nat_lit 0), (nat_lit 40), (nat_lit 16)⟩ hB), fun os => some (Flow.next, S10 w os, hC, ⟨(nat_lit 41), (nat_lit 0), (nat_lit 44), (nat_lit 16)⟩))
theorem q10_eq : HD.seg pw (nat_lit 11) (some (.ref (nat_lit 6))) (nat_lit 244) S9 S10 g10 hE hC ⟨(nat_lit 37), (nat_lit 0), (nat_lit 40), (nat_lit 16)⟩ ⟨(nat_lit 41), (nat_lit 0), (nat_lit 44), (nat_lit 16)⟩ hB = q10 := by kernel_rfl
name_quick YK4010 for q10 by q10_eq
theorem i10 (w : World) : (Fast.YK4010 w).1 = (Fast.YK4010 w).2 := by kernel_rfl
theorem h10 : HD.Ok (HD.seg pw (nat_lit 11) (some (.ref (nat_lit 6))) (nat_lit 244) S9 S10 g10 hE hC ⟨(nat_lit 37), (nat_lit 0), (nat_lit 40), (nat_lit 16)⟩ ⟨(nat_lit 41), (nat_lit 0), (nat_lit 44), (nat_lit 16)⟩ hB) := HD.by1 Fast.YK4010_eq i10
noncomputable def o3_11 (P : Params) : Obj := ⟨(.type "dict"), none, (.dict #[⟨(PyData.keyHash P x0), (.str x0 (nat_lit 165)), (.str x169 (nat_lit 194))⟩, ⟨(PyData.keyHash P x2), (.str x2 (nat_lit 166)), .none⟩, ⟨(PyData.keyHash P x3), (.str x3 (nat_lit 167)), .none⟩, ⟨(PyData.keyHash P x4), (.str x4 (nat_lit 168)), (.builtin "__main__.__loader__#opaque")⟩, ⟨(PyData.keyHash P x5), (.str x5 (nat_lit 169)), .none⟩, ⟨(PyData.keyHash P x161), (.str x161 (nat_lit 170)), (.ref (nat_lit 6))⟩, ⟨(PyData.keyHash P x162), (.str x162 (nat_lit 171)), (.ref (nat_lit 4))⟩, ⟨(PyData.keyHash P x163), (.str x163 (nat_lit 173)), (.str x164 (nat_lit 172))⟩, ⟨(PyData.keyHash P x165), (.str x165 (nat_lit 174)), .none⟩, ⟨(PyData.keyHash P x167), (.str x167 (nat_lit 193)), (.ref (nat_lit 21))⟩, ⟨(PyData.keyHash P x170), (.str x170 (nat_lit 220)), (.ref (nat_lit 38))⟩, ⟨(PyData.keyHash P x179), (.str x179 (nat_lit 243)), (.ref (nat_lit 58))⟩, ⟨(PyData.keyHash P x181), (.str x181 (nat_lit 266)), (.ref (nat_lit 77))⟩, ⟨(PyData.keyHash P x183), (.str x183 (nat_lit 289)), (.ref (nat_lit 96))⟩, ⟨(PyData.keyHash P x185), (.str x185 (nat_lit 312)), (.ref (nat_lit 115))⟩, ⟨(PyData.keyHash P x187), (.str x187 (nat_lit 335)), (.ref (nat_lit 134))⟩, ⟨(PyData.keyHash P x189), (.str x189 (nat_lit 358)), (.ref (nat_lit 153))⟩, ⟨(PyData.keyHash P x191), (.str x191 (nat_lit 381)), (.ref (nat_lit 172))⟩, ⟨(PyData.keyHash P x193), (.str x193 (nat_lit 404)), (.ref (nat_lit 191))⟩, ⟨(PyData.keyHash P x195), (.str x195 (nat_lit 427)), (.ref (nat_lit 210))⟩, ⟨(PyData.keyHash P x197), (.str x197 (nat_lit 450)), (.ref (nat_lit 229))⟩] (nat_lit 21)), #[]⟩
noncomputable def o12_11 (P : Params) : Obj := ⟨.none, none, (.fields #[(.int (.ofNat (nat_lit 1)) (nat_lit 0)), (.int (.ofNat (nat_lit 0)) (nat_lit 0)), (.ref (nat_lit 20)), (.int (.ofNat (nat_lit 5)) (nat_lit 0)), (.int (.ofNat (nat_lit 0)) (nat_lit 0)), (.ref (nat_lit 27)), (.int (.ofNat (nat_lit 9)) (nat_lit 0)), (.int (.ofNat (nat_lit 0)) (nat_lit 0)), (.ref (nat_lit 47)), (.int (.ofNat (nat_lit 13)) (nat_lit 0)), (.int (.ofNat (nat_lit 0)) (nat_lit 0)), (.ref (nat_lit 66)), (.int (.ofNat (nat_lit 17)) (nat_lit 0)), (.int (.ofNat (nat_lit 0)) (nat_lit 0)), (.ref (nat_lit 85)), (.int (.ofNat (nat_lit 21)) (nat_lit 0)), (.int (.ofNat (nat_lit 0)) (nat_lit 0)), (.ref (nat_lit 104)), (.int (.ofNat (nat_lit 25)) (nat_lit 0)), (.int (.ofNat (nat_lit 0)) (nat_lit 0)), (.ref (nat_lit 123)), (.int (.ofNat (nat_lit 29)) (nat_lit 0)), (.int (.ofNat (nat_lit 0)) (nat_lit 0)), (.ref (nat_lit 142)), (.int (.ofNat (nat_lit 33)) (nat_lit 0)), (.int (.ofNat (nat_lit 0)) (nat_lit 0)), (.ref (nat_lit 161)), (.int (.ofNat (nat_lit 37)) (nat_lit 0)), (.int (.ofNat (nat_lit 0)) (nat_lit 0)), (.ref (nat_lit 180)), (.int (.ofNat (nat_lit 41)) (nat_lit 0)), (.int (.ofNat (nat_lit 0)) (nat_lit 0)), (.ref (nat_lit 199)), (.int (.ofNat (nat_lit 45)) (nat_lit 0)), (.int (.ofNat (nat_lit 0)) (nat_lit 0)), (.ref (nat_lit 218))]), #[]⟩
noncomputable def o38_11 (P : Params) : Obj := ⟨(.type "type"), none, (.cls ⟨x170, [(.type "ValueError")], [(.ref (nat_lit 38)), (.type "ValueError"), (.type "Exception"), (.type "BaseException"), (.type "object")], (nat_lit 37), x170, true, [], [(.ref (nat_lit 58)), (.ref (nat_lit 77)), (.ref (nat_lit 96)), (.ref (nat_lit 115)), (.ref (nat_lit 134)), (.ref (nat_lit 153)), (.ref (nat_lit 172)), (.ref (nat_lit 191)), (.ref (nat_lit 210)), (.ref (nat_lit 229))], false, none, false⟩), #[(some (.ref (nat_lit 22))), none, (some (.str x170 (nat_lit 196))), (some (.str x170 (nat_lit 204))), (some (.builtin "ValueError.__new__")), (some (.bool true))]⟩
noncomputable def o213_11 (P : Params) : Obj := ⟨(.type "tuple"), none, (.seq #[(.ref (nat_lit 38))] (nat_lit 0)), #[]⟩
noncomputable def o214_11 (P : Params) : Obj := ⟨(.type "builtin_function_or_method"), none, (.fields #[(.builtin "type.__prepare__"), (.type "type")]), #[]⟩
noncomputable def o215_11 (P : Params) : Obj := ⟨(.type "dict"), none, (.dict #[⟨(PyData.keyHash P x171), (.str x171 (nat_lit 435)), (.str x169 (nat_lit 194))⟩, ⟨(PyData.keyHash P x172), (.str x172 (nat_lit 437)), (.str x197 (nat_lit 436))⟩, ⟨(PyData.keyHash P x173), (.str x173 (nat_lit 439)), (.int (.ofNat (nat_lit 45)) (nat_lit 438))⟩, ⟨(PyData.keyHash P x174), (.str x174 (nat_lit 446)), (.ref (nat_lit 226))⟩, ⟨(PyData.keyHash P x175), (.str x175 (nat_lit 447)), (.ref (nat_lit 227))⟩] (nat_lit 5)), #[]⟩
noncomputable def o216_11 (P : Params) : Obj := ⟨(.type "tuple"), none, (.seq #[] (nat_lit 0)), #[]⟩
noncomputable def o217_11 (P : Params) : Obj := ⟨.none, none, (.fields #[(.int (.ofNat (nat_lit 47)) (nat_lit 0)), (.int (.ofNat (nat_lit 4)) (nat_lit 0)), (.ref (nat_lit 225))]), #[]⟩
noncomputable def o218_11 (P : Params) : Obj := ⟨(.type "code"), none, (.fields #[(.str x197 (nat_lit 430)), (.str x197 (nat_lit 431)), (.str x164 (nat_lit 432)), (.int (.ofNat (nat_lit 45)) (nat_lit 0)), (.int (.ofNat (nat_lit 0)) (nat_lit 0)), (.int (.ofNat (nat_lit 0)) (nat_lit 0)), (.int (.ofNat (nat_lit 0)) (nat_lit 0)), (.int (.ofNat (nat_lit 0)) (nat_lit 0)), (.ref (nat_lit 216)), (.bool false), (.int (.ofNat (nat_lit 181)) (nat_lit 0)), (.ref (nat_lit 217)), .none, .none, .none, .none, (.int (.ofNat (nat_lit 433)) (nat_lit 0)), (.int (.ofNat (nat_lit 45)) (nat_lit 0)), (.str x164 (nat_lit 434))]), #[]⟩
noncomputable def o219_11 (P : Params) : Obj := ⟨(.type "frame"), none, .plain, #[(some (.ref (nat_lit 218))), (some (.ref (nat_lit 3))), (some (.ref (nat_lit 215))), none, (some (.str x169 (nat_lit 194))), none, (some (.ref (nat_lit 0)))]⟩
noncomputable def o220_11 (P : Params) : Obj := ⟨(.type "tuple"), none, (.seq #[] (nat_lit 0)), #[]⟩
noncomputable def o221_11 (P : Params) : Obj := ⟨.none, none, (.fields #[]), #[]⟩
noncomputable def o222_11 (P : Params) : Obj := ⟨(.type "tuple"), none, (.seq #[(.str x176 (nat_lit 443))] (nat_lit 0)), #[]⟩
noncomputable def o223_11 (P : Params) : Obj := ⟨(.type "tuple"), none, (.seq #[] (nat_lit 0)), #[]⟩
noncomputable def o224_11 (P : Params) : Obj := ⟨.none, none, (.func ⟨x174, x198, L2.defArgs (L2.inClass (ht 12) 0), .stmts (L2.defBody (L2.inClass (ht 12) 0)), L2.defScope (L2.inClass (ht 12) 0), (nat_lit 0), [], .none, .none, .none, .none, none, .none, .none, (nat_lit 0)⟩), #[]⟩
noncomputable def o225_11 (P : Params) : Obj := ⟨(.type "code"), none, (.fields #[(.str x174 (nat_lit 440)), (.str x198 (nat_lit 441)), (.str x164 (nat_lit 442)), (.int (.ofNat (nat_lit 47)) (nat_lit 0)), (.int (.ofNat (nat_lit 1)) (nat_lit 0)), (.int (.ofNat (nat_lit 0)) (nat_lit 0)), (.int (.ofNat (nat_lit 0)) (nat_lit 0)), (.int (.ofNat (nat_lit 3)) (nat_lit 0)), (.ref (nat_lit 220)), (.bool true), (.int (.ofNat (nat_lit 181)) (nat_lit 0)), (.ref (nat_lit 221)), .none, (.ref (nat_lit 222)), (.ref (nat_lit 223)), (.ref (nat_lit 224)), (.int (.ofNat (nat_lit 444)) (nat_lit 0)), (.int (.ofNat (nat_lit 47)) (nat_lit 0)), (.str x164 (nat_lit 445))]), #[]⟩
noncomputable def o226_11 (P : Params) : Obj := ⟨(.type "function"), none, (.func ⟨x174, x198, L2.defArgs (L2.inClass (ht 12) 0), .stmts (L2.defBody (L2.inClass (ht 12) 0)), L2.defScope (L2.inClass (ht 12) 0), (nat_lit 3), [], .none, .none, .none, (.str x169 (nat_lit 194)), none, (.ref (nat_lit 225)), .none, (nat_lit 0)⟩), #[]⟩
noncomputable def o227_11 (P : Params) : Obj := ⟨(.type "tuple"), none, (.seq #[] (nat_lit 0)), #[]⟩
noncomputable def o228_11 (P : Params) : Obj := ⟨(.type "dict"), none, (.dict #[⟨(PyData.keyHash P x171), (.str x171 (nat_lit 435)), (.str x169 (nat_lit 194))⟩, ⟨(PyData.keyHash P x173), (.str x173 (nat_lit 439)), (.int (.ofNat (nat_lit 45)) (nat_lit 438))⟩, ⟨(PyData.keyHash P x174), (.str x174 (nat_lit 446)), (.ref (nat_lit 226))⟩, ⟨(PyData.keyHash P x175), (.str x175 (nat_lit 447)), (.ref (nat_lit 227))⟩, ⟨(PyData.keyHash P x2), (.str x2 (nat_lit 448)), .none⟩] (nat_lit 2)), #[]⟩
noncomputable def o229_11 (P : Params) : Obj := ⟨(.type "type"), none, (.cls ⟨x197, [(.ref (nat_lit 38))], [(.ref (nat_lit 229)), (.ref (nat_lit 38)), (.type "ValueError"), (.type "Exception"), (.type "BaseException"), (.type "object")], (nat_lit 228), x197, true, [], [], false, none, false⟩), #[(some (.ref (nat_lit 213))), none, (some (.str x197 (nat_lit 428))), (some (.str x197 (nat_lit 436))), (some (.builtin "ValueError.__new__")), (some (.bool true))]⟩
noncomputable def o230_11 (P : Params) : Obj := ⟨(.type "super"), none, (.fields #[(.ref (nat_lit 229)), (.ref (nat_lit 229)), (.ref (nat_lit 229))]), #[]⟩
noncomputable def o231_11 (P : Params) : Obj := ⟨(.type "builtin_function_or_method"), none, (.fields #[(.builtin "object.__init_subclass__"), (.ref (nat_lit 229))]), #[]⟩
noncomputable def g11 : List Stmt := [ht 12]
noncomputable def T11 (P : Params) : BT := (((((((((((((((((((((((T10 P).ins (nat_lit 3) (o3_11 P)).ins (nat_lit 12) (o12_11 P)).ins (nat_lit 38) (o38_11 P)).ins (nat_lit 213) (o213_11 P)).ins (nat_lit 214) (o214_11 P)).ins (nat_lit 215) (o215_11 P)).ins (nat_lit 216) (o216_11 P)).ins (nat_lit 217) (o217_11 P)).ins (nat_lit 218) (o218_11 P)).ins (nat_lit 219) (o219_11 P)).ins (nat_lit 220) (o220_11 P)).ins (nat_lit 221) (o221_11 P)).ins (nat_lit 222) (o222_11 P)).ins (nat_lit 223) (o223_11 P)).ins (nat_lit 224) (o224_11 P)).ins (nat_lit 225) (o225_11 P)).ins (nat_lit 226) (o226_11 P)).ins (nat_lit 227) (o227_11 P)).ins (nat_lit 228) (o228_11 P)).ins (nat_lit 229) (o229_11 P)).ins (nat_lit 230) (o230_11 P)).ins (nat_lit 231) (o231_11 P))
noncomputable def lf11 : Life := ⟨[], [], [], (nat_lit 0), [], [], false, #[], [], (nat_lit 0), false, false, false, (.ofNat (nat_lit 0)), [(.ofNat (nat_lit 2000)), (.ofNat (nat_lit 10)), (.ofNat (nat_lit 10))], false, (nat_lit 0), true, [], [], (nat_lit 0), false⟩
noncomputable abbrev S11 (w : World) (os : OsState) : SharedT := ⟨T11 w.params, nat_lit 232, lf11, Array.mk [], ⟨(nat_lit 0), (nat_lit 0), (nat_lit 0), (nat_lit 0)⟩, nat_lit 451, os⟩
noncomputable def q11 (w : World) : (OsState → Option (Flow × SharedT × Code × Pos)) × (OsState → Option (Flow × SharedT × Code × Pos)) := (fun os => segRunT treeTable pw w (nat_lit 11) (some (.ref (nat_lit 6))) (nat_lit 1) (nat_lit 244) (S10 w os) (piecesOf g11 hE hC ⟨(nat_lit 41), (nat_lit 0), (nat_lit 44), (nat_lit 16)⟩ hB), fun os => some (Flow.next, S11 w os, hC, ⟨(nat_lit 45), (nat_lit 0), (nat_lit 48), (nat_lit 17)⟩))
theorem q11_eq : HD.seg pw (nat_lit 11) (some (.ref (nat_lit 6))) (nat_lit 244) S10 S11 g11 hE hC ⟨(nat_lit 41), (nat_lit 0), (nat_lit 44), (nat_lit 16)⟩ ⟨(nat_lit 45), (nat_lit 0), (nat_lit 48), (nat_lit 17)⟩ hB = q11 := by kernel_rfl
name_quick YK4011 for q11 by q11_eq
theorem i11 (w : World) : (Fast.YK4011 w).1 = (Fast.YK4011 w).2 := by kernel_rfl
theorem h11 : HD.Ok (HD.seg pw (nat_lit 11) (some (.ref (nat_lit 6))) (nat_lit 244) S10 S11 g11 hE hC ⟨(nat_lit 41), (nat_lit 0), (nat_lit 44), (nat_lit 16)⟩ ⟨(nat_lit 45), (nat_lit 0), (nat_lit 48), (nat_lit 17)⟩ hB) := HD.by1 Fast.YK4011_eq i11
noncomputable def o3_12 (P : Params) : Obj := ⟨(.type "dict"), none, (.dict #[⟨(PyData.keyHash P x0), (.str x0 (nat_lit 165)), (.str x169 (nat_lit 194))⟩, ⟨(PyData.keyHash P x2), (.str x2 (nat_lit 166)), .none⟩, ⟨(PyData.keyHash P x3), (.str x3 (nat_lit 167)), .none⟩, ⟨(PyData.keyHash P x4), (.str x4 (nat_lit 168)), (.builtin "__main__.__loader__#opaque")⟩, ⟨(PyData.keyHash P x5), (.str x5 (nat_lit 169)), .none⟩, ⟨(PyData.keyHash P x161), (.str x161 (nat_lit 170)), (.ref (nat_lit 6))⟩, ⟨(PyData.keyHash P x162), (.str x162 (nat_lit 171)), (.ref (nat_lit 4))⟩, ⟨(PyData.keyHash P x163), (.str x163 (nat_lit 173)), (.str x164 (nat_lit 172))⟩, ⟨(PyData.keyHash P x165), (.str x165 (nat_lit 174)), .none⟩, ⟨(PyData.keyHash P x167), (.str x167 (nat_lit 193)), (.ref (nat_lit 21))⟩, ⟨(PyData.keyHash P x170), (.str x170 (nat_lit 220)), (.ref (nat_lit 38))⟩, ⟨(PyData.keyHash P x179), (.str x179 (nat_lit 243)), (.ref (nat_lit 58))⟩, ⟨(PyData.keyHash P x181), (.str x181 (nat_lit 266)), (.ref (nat_lit 77))⟩, ⟨(PyData.keyHash P x183), (.str x183 (nat_lit 289)), (.ref (nat_lit 96))⟩, ⟨(PyData.keyHash P x185), (.str x185 (nat_lit 312)), (.ref (nat_lit 115))⟩, ⟨(PyData.keyHash P x187), (.str x187 (nat_lit 335)), (.ref (nat_lit 134))⟩, ⟨(PyData.keyHash P x189), (.str x189 (nat_lit 358)), (.ref (nat_lit 153))⟩, ⟨(PyData.keyHash P x191), (.str x191 (nat_lit 381)), (.ref (nat_lit 172))⟩, ⟨(PyData.keyHash P x193), (.str x193 (nat_lit 404)), (.ref (nat_lit 191))⟩, ⟨(PyData.keyHash P x195), (.str x195 (nat_lit 427)), (.ref (nat_lit 210))⟩, ⟨(PyData.keyHash P x197), (.str x197 (nat_lit 450)), (.ref (nat_lit 229))⟩, ⟨(PyData.keyHash P x199), (.str x199 (nat_lit 473)), (.ref (nat_lit 248))⟩] (nat_lit 22)), #[]⟩
noncomputable def o12_12 (P : Params) : Obj := ⟨.none, none, (.fields #[(.int (.ofNat (nat_lit 1)) (nat_lit 0)), (.int (.ofNat (nat_lit 0)) (nat_lit 0)), (.ref (nat_lit 20)), (.int (.ofNat (nat_lit 5)) (nat_lit 0)), (.int (.ofNat (nat_lit 0)) (nat_lit 0)), (.ref (nat_lit 27)), (.int (.ofNat (nat_lit 9)) (nat_lit 0)), (.int (.ofNat (nat_lit 0)) (nat_lit 0)), (.ref (nat_lit 47)), (.int (.ofNat (nat_lit 13)) (nat_lit 0)), (.int (.ofNat (nat_lit 0)) (nat_lit 0)), (.ref (nat_lit 66)), (.int (.ofNat (nat_lit 17)) (nat_lit 0)), (.int (.ofNat (nat_lit 0)) (nat_lit 0)), (.ref (nat_lit 85)), (.int (.ofNat (nat_lit 21)) (nat_lit 0)), (.int (.ofNat (nat_lit 0)) (nat_lit 0)), (.ref (nat_lit 104)), (.int (.ofNat (nat_lit 25)) (nat_lit 0)), (.int (.ofNat (nat_lit 0)) (nat_lit 0)), (.ref (nat_lit 123)), (.int (.ofNat (nat_lit 29)) (nat_lit 0)), (.int (.ofNat (nat_lit 0)) (nat_lit 0)), (.ref (nat_lit 142)), (.int (.ofNat (nat_lit 33)) (nat_lit 0)), (.int (.ofNat (nat_lit 0)) (nat_lit 0)), (.ref (nat_lit 161)), (.int (.ofNat (nat_lit 37)) (nat_lit 0)), (.int (.ofNat (nat_lit 0)) (nat_lit 0)), (.ref (nat_lit 180)), (.int (.ofNat (nat_lit 41)) (nat_lit 0)), (.int (.ofNat (nat_lit 0)) (nat_lit 0)), (.ref (nat_lit 199)), (.int (.ofNat (nat_lit 45)) (nat_lit 0)), (.int (.ofNat (nat_lit 0)) (nat_lit 0)), (.ref (nat_lit 218)), (.int (.ofNat (nat_lit 49)) (nat_lit 0)), (.int (.ofNat (nat_lit 0)) (nat_lit 0)), (.ref (nat_lit 237))]), #[]⟩
noncomputable def o38_12 (P : Params) : Obj := ⟨(.type "type"), none, (.cls ⟨x170, [(.type "ValueError")], [(.ref (nat_lit 38)), (.type "ValueError"), (.type "Exception"), (.type "BaseException"), (.type "object")], (nat_lit 37), x170, true, [], [(.ref (nat_lit 58)), (.ref (nat_lit 77)), (.ref (nat_lit 96)), (.ref (nat_lit 115)), (.ref (nat_lit 134)), (.ref (nat_lit 153)), (.ref (nat_lit 172)), (.ref (nat_lit 191)), (.ref (nat_lit 210)), (.ref (nat_lit 229)), (.ref (nat_lit 248))], false, none, false⟩), #[(some (.ref (nat_lit 22))), none, (some (.str x170 (nat_lit 196))), (some (.str x170 (nat_lit 204))), (some (.builtin "ValueError.__new__")), (some (.bool true))]⟩
noncomputable def o232_12 (P : Params) : Obj := ⟨(.type "tuple"), none, (.seq #[(.ref (nat_lit 38))] (nat_lit 0)), #[]⟩
noncomputable def o233_12 (P : Params) : Obj := ⟨(.type "builtin_function_or_method"), none, (.fields #[(.builtin "type.__prepare__"), (.type "type")]), #[]⟩
noncomputable def o234_12 (P : Params) : Obj := ⟨(.type "dict"), none, (.dict #[⟨(PyData.keyHash P x171), (.str x171 (nat_lit 458)), (.str x169 (nat_lit 194))⟩, ⟨(PyData.keyHash P x172), (.str x172 (nat_lit 460)), (.str x199 (nat_lit 459))⟩, ⟨(PyData.keyHash P x173), (.str x173 (nat_lit 462)), (.int (.ofNat (nat_lit 49)) (nat_lit 461))⟩, ⟨(PyData.keyHash P x174), (.str x174 (nat_lit 469)), (.ref (nat_lit 245))⟩, ⟨(PyData.keyHash P x175), (.str x175 (nat_lit 470)), (.ref (nat_lit 246))⟩] (nat_lit 5)), #[]⟩
noncomputable def o235_12 (P : Params) : Obj := ⟨(.type "tuple"), none, (.seq #[] (nat_lit 0)), #[]⟩
noncomputable def o236_12 (P : Params) : Obj := ⟨.none, none, (.fields #[(.int (.ofNat (nat_lit 51)) (nat_lit 0)), (.int (.ofNat (nat_lit 4)) (nat_lit 0)), (.ref (nat_lit 244))]), #[]⟩
noncomputable def o237_12 (P : Params) : Obj := ⟨(.type "code"), none, (.fields #[(.str x199 (nat_lit 453)), (.str x199 (nat_lit 454)), (.str x164 (nat_lit 455)), (.int (.ofNat (nat_lit 49)) (nat_lit 0)), (.int (.ofNat (nat_lit 0)) (nat_lit 0)), (.int (.ofNat (nat_lit 0)) (nat_lit 0)), (.int (.ofNat (nat_lit 0)) (nat_lit 0)), (.int (.ofNat (nat_lit 0)) (nat_lit 0)), (.ref (nat_lit 235)), (.bool false), (.int (.ofNat (nat_lit 181)) (nat_lit 0)), (.ref (nat_lit 236)), .none, .none, .none, .none, (.int (.ofNat (nat_lit 456)) (nat_lit 0)), (.int (.ofNat (nat_lit 49)) (nat_lit 0)), (.str x164 (nat_lit 457))]), #[]⟩
noncomputable def o238_12 (P : Params) : Obj := ⟨(.type "frame"), none, .plain, #[(some (.ref (nat_lit 237))), (some (.ref (nat_lit 3))), (some (.ref (nat_lit 234))), none, (some (.str x169 (nat_lit 194))), none, (some (.ref (nat_lit 0)))]⟩
noncomputable def o239_12 (P : Params) : Obj := ⟨(.type "tuple"), none, (.seq #[] (nat_lit 0)), #[]⟩
noncomputable def o240_12 (P : Params) : Obj := ⟨.none, none, (.fields #[]), #[]⟩
noncomputable def o241_12 (P : Params) : Obj := ⟨(.type "tuple"), none, (.seq #[(.str x176 (nat_lit 466))] (nat_lit 0)), #[]⟩
noncomputable def o242_12 (P : Params) : Obj := ⟨(.type "tuple"), none, (.seq #[] (nat_lit 0)), #[]⟩
noncomputable def o243_12 (P : Params) : Obj := ⟨.none, none, (.func ⟨x174, x200, L2.defArgs (L2.inClass (ht 13) 0), .stmts (L2.defBody (L2.inClass (ht 13) 0)), L2.defScope (L2.inClass (ht 13) 0), (nat_lit 0), [], .none, .none, .none, .none, none, .none, .none, (nat_lit 0)⟩), #[]⟩
noncomputable def o244_12 (P : Params) : Obj := ⟨(.type "code"), none, (.fields #[(.str x174 (nat_lit 463)), (.str x200 (nat_lit 464)), (.str x164 (nat_lit 465)), (.int (.ofNat (nat_lit 51)) (nat_lit 0)), (.int (.ofNat (nat_lit 1)) (nat_lit 0)), (.int (.ofNat (nat_lit 0)) (nat_lit 0)), (.int (.ofNat (nat_lit 0)) (nat_lit 0)), (.int (.ofNat (nat_lit 3)) (nat_lit 0)), (.ref (nat_lit 239)), (.bool true), (.int (.ofNat (nat_lit 181)) (nat_lit 0)), (.ref (nat_lit 240)), .none, (.ref (nat_lit 241)), (.ref (nat_lit 242)), (.ref (nat_lit 243)), (.int (.ofNat (nat_lit 467)) (nat_lit 0)), (.int (.ofNat (nat_lit 51)) (nat_lit 0)), (.str x164 (nat_lit 468))]), #[]⟩
noncomputable def o245_12 (P : Params) : Obj := ⟨(.type "function"), none, (.func ⟨x174, x200, L2.defArgs (L2.inClass (ht 13) 0), .stmts (L2.defBody (L2.inClass (ht 13) 0)), L2.defScope (L2.inClass (ht 13) 0), (nat_lit 3), [], .none, .none, .none, (.str x169 (nat_lit 194)), none, (.ref (nat_lit 244)), .none, (nat_lit 0)⟩), #[]⟩
noncomputable def o246_12 (P : Params) : Obj := ⟨(.type "tuple"), none, (.seq #[] (nat_lit 0)), #[]⟩
noncomputable def o247_12 (P : Params) : Obj := ⟨(.type "dict"), none, (.dict #[⟨(PyData.keyHash P x171), (.str x171 (nat_lit 458)), (.str x169 (nat_lit 194))⟩, ⟨(PyData.keyHash P x173), (.str x173 (nat_lit 462)), (.int (.ofNat (nat_lit 49)) (nat_lit 461))⟩, ⟨(PyData.keyHash P x174), (.str x174 (nat_lit 469)), (.ref (nat_lit 245))⟩, ⟨(PyData.keyHash P x175), (.str x175 (nat_lit 470)), (.ref (nat_lit 246))⟩, ⟨(PyData.keyHash P x2), (.str x2 (nat_lit 471)), .none⟩] (nat_lit 2)), #[]⟩
noncomputable def o248_12 (P : Params) : Obj := ⟨(.type "type"), none, (.cls ⟨x199, [(.ref (nat_lit 38))], [(.ref (nat_lit 248)), (.ref (nat_lit 38)), (.type "ValueError"), (.type "Exception"), (.type "BaseException"), (.type "object")], (nat_lit 247), x199, true, [], [], false, none, false⟩), #[(some (.ref (nat_lit 232))), none, (some (.str x199 (nat_lit 451))), (some (.str x199 (nat_lit 459))), (some (.builtin "ValueError.__new__")), (some (.bool true))]⟩
noncomputable def o249_12 (P : Params) : Obj := ⟨(.type "super"), none, (.fields #[(.ref (nat_lit 248)), (.ref (nat_lit 248)), (.ref (nat_lit 248))]), #[]⟩
noncomputable def o250_12 (P : Params) : Obj := ⟨(.type "builtin_function_or_method"), none, (.fields #[(.builtin "object.__init_subclass__"), (.ref (nat_lit 248))]), #[]⟩
noncomputable def g12 : List Stmt := [ht 13]
noncomputable def T12 (P : Params) : BT := (((((((((((((((((((((((T11 P).ins (nat_lit 3) (o3_12 P)).ins (nat_lit 12) (o12_12 P)).ins (nat_lit 38) (o38_12 P)).ins (nat_lit 232) (o232_12 P)).ins (nat_lit 233) (o233_12 P)).ins (nat_lit 234) (o234_12 P)).ins (nat_lit 235) (o235_12 P)).ins (nat_lit 236) (o236_12 P)).ins (nat_lit 237) (o237_12 P)).ins (nat_lit 238) (o238_12 P)).ins (nat_lit 239) (o239_12 P)).ins (nat_lit 240) (o240_12 P)).ins (nat_lit 241) (o241_12 P)).ins (nat_lit 242) (o242_12 P)).ins (nat_lit 243) (o243_12 P)).ins (nat_lit 244) (o244_12 P)).ins (nat_lit 245) (o245_12 P)).ins (nat_lit 246) (o246_12 P)).ins (nat_lit 247) (o247_12 P)).ins (nat_lit 248) (o248_12 P)).ins (nat_lit 249) (o249_12 P)).ins (nat_lit 250) (o250_12 P))
noncomputable def lf12 : Life := ⟨[], [], [], (nat_lit 0), [], [], false, #[], [], (nat_lit 0), false, false, false, (.ofNat (nat_lit 0)), [(.ofNat (nat_lit 2000)), (.ofNat (nat_lit 10)), (.ofNat (nat_lit 10))], false, (nat_lit 0), true, [], [], (nat_lit 0), false⟩
noncomputable abbrev S12 (w : World) (os : OsState) : SharedT := ⟨T12 w.params, nat_lit 251, lf12, Array.mk [], ⟨(nat_lit 0), (nat_lit 0), (nat_lit 0), (nat_lit 0)⟩, nat_lit 474, os⟩
noncomputable def q12 (w : World) : (OsState → Option (Flow × SharedT × Code × Pos)) × (OsState → Option (Flow × SharedT × Code × Pos)) := (fun os => segRunT treeTable pw w (nat_lit 11) (some (.ref (nat_lit 6))) (nat_lit 1) (nat_lit 244) (S11 w os) (piecesOf g12 hE hC ⟨(nat_lit 45), (nat_lit 0), (nat_lit 48), (nat_lit 17)⟩ hB), fun os => some (Flow.next, S12 w os, hC, ⟨(nat_lit 49), (nat_lit 0), (nat_lit 52), (nat_lit 17)⟩))
theorem q12_eq : HD.seg pw (nat_lit 11) (some (.ref (nat_lit 6))) (nat_lit 244) S11 S12 g12 hE hC ⟨(nat_lit 45), (nat_lit 0), (nat_lit 48), (nat_lit 17)⟩ ⟨(nat_lit 49), (nat_lit 0), (nat_lit 52), (nat_lit 17)⟩ hB = q12 := by kernel_rfl
name_quick YK4012 for q12 by q12_eq
theorem i12 (w : World) : (Fast.YK4012 w).1 = (Fast.YK4012 w).2 := by kernel_rfl
theorem h12 : HD.Ok (HD.seg pw (nat_lit 11) (some (.ref (nat_lit 6))) (nat_lit 244) S11 S12 g12 hE hC ⟨(nat_lit 45), (nat_lit 0), (nat_lit 48), (nat_lit 17)⟩ ⟨(nat_lit 49), (nat_lit 0), (nat_lit 52), (nat_lit 17)⟩ hB) := HD.by1 Fast.YK4012_eq i12
noncomputable def o3_13 (P : Params) : Obj := ⟨(.type "dict"), none, (.dict #[⟨(PyData.keyHash P x0), (.str x0 (nat_lit 165)), (.str x169 (nat_lit 194))⟩, ⟨(PyData.keyHash P x2), (.str x2 (nat_lit 166)), .none⟩, ⟨(PyData.keyHash P x3), (.str x3 (nat_lit 167)), .none⟩, ⟨(PyData.keyHash P x4), (.str x4 (nat_lit 168)), (.builtin "__main__.__loader__#opaque")⟩, ⟨(PyData.keyHash P x5), (.str x5 (nat_lit 169)), .none⟩, ⟨(PyData.keyHash P x161), (.str x161 (nat_lit 170)), (.ref (nat_lit 6))⟩, ⟨(PyData.keyHash P x162), (.str x162 (nat_lit 171)), (.ref (nat_lit 4))⟩, ⟨(PyData.keyHash P x163), (.str x163 (nat_lit 173)), (.str x164 (nat_lit 172))⟩, ⟨(PyData.keyHash P x165), (.str x165 (nat_lit 174)), .none⟩, ⟨(PyData.keyHash P x167), (.str x167 (nat_lit 193)), (.ref (nat_lit 21))⟩, ⟨(PyData.keyHash P x170), (.str x170 (nat_lit 220)), (.ref (nat_lit 38))⟩, ⟨(PyData.keyHash P x179), (.str x179 (nat_lit 243)), (.ref (nat_lit 58))⟩, ⟨(PyData.keyHash P x181), (.str x181 (nat_lit 266)), (.ref (nat_lit 77))⟩, ⟨(PyData.keyHash P x183), (.str x183 (nat_lit 289)), (.ref (nat_lit 96))⟩, ⟨(PyData.keyHash P x185), (.str x185 (nat_lit 312)), (.ref (nat_lit 115))⟩, ⟨(PyData.keyHash P x187), (.str x187 (nat_lit 335)), (.ref (nat_lit 134))⟩, ⟨(PyData.keyHash P x189), (.str x189 (nat_lit 358)), (.ref (nat_lit 153))⟩, ⟨(PyData.keyHash P x191), (.str x191 (nat_lit 381)), (.ref (nat_lit 172))⟩, ⟨(PyData.keyHash P x193), (.str x193 (nat_lit 404)), (.ref (nat_lit 191))⟩, ⟨(PyData.keyHash P x195), (.str x195 (nat_lit 427)), (.ref (nat_lit 210))⟩, ⟨(PyData.keyHash P x197), (.str x197 (nat_lit 450)), (.ref (nat_lit 229))⟩, ⟨(PyData.keyHash P x199), (.str x199 (nat_lit 473)), (.ref (nat_lit 248))⟩, ⟨(PyData.keyHash P x201), (.str x201 (nat_lit 496)), (.ref (nat_lit 267))⟩] (nat_lit 23)), #[]⟩
noncomputable def o12_13 (P : Params) : Obj := ⟨.none, none, (.fields #[(.int (.ofNat (nat_lit 1)) (nat_lit 0)), (.int (.ofNat (nat_lit 0)) (nat_lit 0)), (.ref (nat_lit 20)), (.int (.ofNat (nat_lit 5)) (nat_lit 0)), (.int (.ofNat (nat_lit 0)) (nat_lit 0)), (.ref (nat_lit 27)), (.int (.ofNat (nat_lit 9)) (nat_lit 0)), (.int (.ofNat (nat_lit 0)) (nat_lit 0)), (.ref (nat_lit 47)), (.int (.ofNat (nat_lit 13)) (nat_lit 0)), (.int (.ofNat (nat_lit 0)) (nat_lit 0)), (.ref (nat_lit 66)), (.int (.ofNat (nat_lit 17)) (nat_lit 0)), (.int (.ofNat (nat_lit 0)) (nat_lit 0)), (.ref (nat_lit 85)), (.int (.ofNat (nat_lit 21)) (nat_lit 0)), (.int (.ofNat (nat_lit 0)) (nat_lit 0)), (.ref (nat_lit 104)), (.int (.ofNat (nat_lit 25)) (nat_lit 0)), (.int (.ofNat (nat_lit 0)) (nat_lit 0)), (.ref (nat_lit 123)), (.int (.ofNat (nat_lit 29)) (nat_lit 0)), (.int (.ofNat (nat_lit 0)) (nat_lit 0)), (.ref (nat_lit 142)), (.int (.ofNat (nat_lit 33)) (nat_lit 0)), (.int (.ofNat (nat_lit 0)) (nat_lit 0)), (.ref (nat_lit 161)), (.int (.ofNat (nat_lit 37)) (nat_lit 0)), (.int (.ofNat (nat_lit 0)) (nat_lit 0)), (.ref (nat_lit 180)), (.int (.ofNat (nat_lit 41)) (nat_lit 0)), (.int (.ofNat (nat_lit 0)) (nat_lit 0)), (.ref (nat_lit 199)), (.int (.ofNat (nat_lit 45)) (nat_lit 0)), (.int (.ofNat (nat_lit 0)) (nat_lit 0)), (.ref (nat_lit 218)), (.int (.ofNat (nat_lit 49)) (nat_lit 0)), (.int (.ofNat (nat_lit 0)) (nat_lit 0)), (.ref (nat_lit 237)), (.int (.ofNat (nat_lit 53)) (nat_lit 0)), (.int (.ofNat (nat_lit 0)) (nat_lit 0)), (.ref (nat_lit 256))]), #[]⟩
noncomputable def o38_13 (P : Params) : Obj := ⟨(.type "type"), none, (.cls ⟨x170, [(.type "ValueError")], [(.ref (nat_lit 38)), (.type "ValueError"), (.type "Exception"), (.type "BaseException"), (.type "object")], (nat_lit 37), x170, true, [], [(.ref (nat_lit 58)), (.ref (nat_lit 77)), (.ref (nat_lit 96)), (.ref (nat_lit 115)), (.ref (nat_lit 134)), (.ref (nat_lit 153)), (.ref (nat_lit 172)), (.ref (nat_lit 191)), (.ref (nat_lit 210)), (.ref (nat_lit 229)), (.ref (nat_lit 248)), (.ref (nat_lit 267))], false, none, false⟩), #[(some (.ref (nat_lit 22))), none, (some (.str x170 (nat_lit 196))), (some (.str x170 (nat_lit 204))), (some (.builtin "ValueError.__new__")), (some (.bool true))]⟩
noncomputable def o251_13 (P : Params) : Obj := ⟨(.type "tuple"), none, (.seq #[(.ref (nat_lit 38))] (nat_lit 0)), #[]⟩
noncomputable def o252_13 (P : Params) : Obj := ⟨(.type "builtin_function_or_method"), none, (.fields #[(.builtin "type.__prepare__"), (.type "type")]), #[]⟩
noncomputable def o253_13 (P : Params) : Obj := ⟨(.type "dict"), none, (.dict #[⟨(PyData.keyHash P x171), (.str x171 (nat_lit 481)), (.str x169 (nat_lit 194))⟩, ⟨(PyData.keyHash P x172), (.str x172 (nat_lit 483)), (.str x201 (nat_lit 482))⟩, ⟨(PyData.keyHash P x173), (.str x173 (nat_lit 485)), (.int (.ofNat (nat_lit 53)) (nat_lit 484))⟩, ⟨(PyData.keyHash P x174), (.str x174 (nat_lit 492)), (.ref (nat_lit 264))⟩, ⟨(PyData.keyHash P x175), (.str x175 (nat_lit 493)), (.ref (nat_lit 265))⟩] (nat_lit 5)), #[]⟩
noncomputable def o254_13 (P : Params) : Obj := ⟨(.type "tuple"), none, (.seq #[] (nat_lit 0)), #[]⟩
noncomputable def o255_13 (P : Params) : Obj := ⟨.none, none, (.fields #[(.int (.ofNat (nat_lit 55)) (nat_lit 0)), (.int (.ofNat (nat_lit 4)) (nat_lit 0)), (.ref (nat_lit 263))]), #[]⟩
noncomputable def o256_13 (P : Params) : Obj := ⟨(.type "code"), none, (.fields #[(.str x201 (nat_lit 476)), (.str x201 (nat_lit 477)), (.str x164 (nat_lit 478)), (.int (.ofNat (nat_lit 53)) (nat_lit 0)), (.int (.ofNat (nat_lit 0)) (nat_lit 0)), (.int (.ofNat (nat_lit 0)) (nat_lit 0)), (.int (.ofNat (nat_lit 0)) (nat_lit 0)), (.int (.ofNat (nat_lit 0)) (nat_lit 0)), (.ref (nat_lit 254)), (.bool false), (.int (.ofNat (nat_lit 181)) (nat_lit 0)), (.ref (nat_lit 255)), .none, .none, .none, .none, (.int (.ofNat (nat_lit 479)) (nat_lit 0)), (.int (.ofNat (nat_lit 53)) (nat_lit 0)), (.str x164 (nat_lit 480))]), #[]⟩
noncomputable def o257_13 (P : Params) : Obj := ⟨(.type "frame"), none, .plain, #[(some (.ref (nat_lit 256))), (some (.ref (nat_lit 3))), (some (.ref (nat_lit 253))), none, (some (.str x169 (nat_lit 194))), none, (some (.ref (nat_lit 0)))]⟩
noncomputable def o258_13 (P : Params) : Obj := ⟨(.type "tuple"), none, (.seq #[] (nat_lit 0)), #[]⟩
noncomputable def o259_13 (P : Params) : Obj := ⟨.none, none, (.fields #[]), #[]⟩
noncomputable def o260_13 (P : Params) : Obj := ⟨(.type "tuple"), none, (.seq #[(.str x176 (nat_lit 489))] (nat_lit 0)), #[]⟩
noncomputable def o261_13 (P : Params) : Obj := ⟨(.type "tuple"), none, (.seq #[] (nat_lit 0)), #[]⟩
noncomputable def o262_13 (P : Params) : Obj := ⟨.none, none, (.func ⟨x174, x202, L2.defArgs (L2.inClass (ht 14) 0), .stmts (L2.defBody (L2.inClass (ht 14) 0)), L2.defScope (L2.inClass (ht 14) 0), (nat_lit 0), [], .none, .none, .none, .none, none, .none, .none, (nat_lit 0)⟩), #[]⟩
noncomputable def o263_13 (P : Params) : Obj := ⟨(.type "code"), none, (.fields #[(.str x174 (nat_lit 486)), (.str x202 (nat_lit 487)), (.str x164 (nat_lit 488)), (.int (.ofNat (nat_lit 55)) (nat_lit 0)), (.int (.ofNat (nat_lit 1)) (nat_lit 0)), (.int (.ofNat (nat_lit 0)) (nat_lit 0)), (.int (.ofNat (nat_lit 0)) (nat_lit 0)), (.int (.ofNat (nat_lit 3)) (nat_lit 0)), (.ref (nat_lit 258)), (.bool true), (.int (.ofNat (nat_lit 181)) (nat_lit 0)), (.ref (nat_lit 259)), .none, (.ref (nat_lit 260)), (.ref (nat_lit 261)), (.ref (nat_lit 262)), (.int (.ofNat (nat_lit 490)) (nat_lit 0)), (.int (.ofNat (nat_lit 55)) (nat_lit 0)), (.str x164 (nat_lit 491))]), #[]⟩
noncomputable def o264_13 (P : Params) : Obj := ⟨(.type "function"), none, (.func ⟨x174, x202, L2.defArgs (L2.inClass (ht 14) 0), .stmts (L2.defBody (L2.inClass (ht 14) 0)), L2.defScope (L2.inClass (ht 14) 0), (nat_lit 3), [], .none, .none, .none, (.str x169 (nat_lit 194)), none, (.ref (nat_lit 263)), .none, (nat_lit 0)⟩), #[]⟩
noncomputable def o265_13 (P : Params) : Obj := ⟨(.type "tuple"), none, (.seq #[] (nat_lit 0)), #[]⟩
noncomputable def o266_13 (P : Params) : Obj := ⟨(.type "dict"), none, (.dict #[⟨(PyData.keyHash P x171), (.str x171 (nat_lit 481)), (.str x169 (nat_lit 194))⟩, ⟨(PyData.keyHash P x173), (.str x173 (nat_lit 485)), (.int (.ofNat (nat_lit 53)) (nat_lit 484))⟩, ⟨(PyData.keyHash P x174), (.str x174 (nat_lit 492)), (.ref (nat_lit 264))⟩, ⟨(PyData.keyHash P x175), (.str x175 (nat_lit 493)), (.ref (nat_lit 265))⟩, ⟨(PyData.keyHash P x2), (.str x2 (nat_lit 494)), .none⟩] (nat_lit 2)), #[]⟩
noncomputable def o267_13 (P : Params) : Obj := ⟨(.type "type"), none, (.cls ⟨x201, [(.ref (nat_lit 38))], [(.ref (nat_lit 267)), (.ref (nat_lit 38)), (.type "ValueError"), (.type "Exception"), (.type "BaseException"), (.type "object")], (nat_lit 266), x201, true, [], [], false, none, false⟩), #[(some (.ref (nat_lit 251))), none, (some (.str x201 (nat_lit 474))), (some (.str x201 (nat_lit 482))), (some (.builtin "ValueError.__new__")), (some (.bool true))]⟩
noncomputable def o268_13 (P : Params) : Obj := ⟨(.type "super"), none, (.fields #[(.ref (nat_lit 267)), (.ref (nat_lit 267)), (.ref (nat_lit 267))]), #[]⟩
noncomputable def o269_13 (P : Params) : Obj := ⟨(.type "builtin_function_or_method"), none, (.fields #[(.builtin "object.__init_subclass__"), (.ref (nat_lit 267))]), #[]⟩
noncomputable def g13 : List Stmt := [ht 14]
noncomputable def T13 (P : Params) : BT := (((((((((((((((((((((((T12 P).ins (nat_lit 3) (o3_13 P)).ins (nat_lit 12) (o12_13 P)).ins (nat_lit 38) (o38_13 P)).ins (nat_lit 251) (o251_13 P)).ins (nat_lit 252) (o252_13 P)).ins (nat_lit 253) (o253_13 P)).ins (nat_lit 254) (o254_13 P)).ins (nat_lit 255) (o255_13 P)).ins (nat_lit 256) (o256_13 P)).ins (nat_lit 257) (o257_13 P)).ins (nat_lit 258) (o258_13 P)).ins (nat_lit 259) (o259_13 P)).ins (nat_lit 260) (o260_13 P)).ins (nat_lit 261) (o261_13 P)).ins (nat_lit 262) (o262_13 P)).ins (nat_lit 263) (o263_13 P)).ins (nat_lit 264) (o264_13 P)).ins (nat_lit 265) (o265_13 P)).ins (nat_lit 266) (o266_13 P)).ins (nat_lit 267) (o267_13 P)).ins (nat_lit 268) (o268_13 P)).ins (nat_lit 269) (o269_13 P))
noncomputable def lf13 : Life := ⟨[], [], [], (nat_lit 0), [], [], false, #[], [], (nat_lit 0), false, false, false, (.ofNat (nat_lit 0)), [(.ofNat (nat_lit 2000)), (.ofNat (nat_lit 10)), (.ofNat (nat_lit 10))], false, (nat_lit 0), true, [], [], (nat_lit 0), false⟩
noncomputable abbrev S13 (w : World) (os : OsState) : SharedT := ⟨T13 w.params, nat_lit 270, lf13, Array.mk [], ⟨(nat_lit 0), (nat_lit 0), (nat_lit 0), (nat_lit 0)⟩, nat_lit 497, os⟩
noncomputable def q13 (w : World) : (OsState → Option (Flow × SharedT × Code × Pos)) × (OsState → Option (Flow × SharedT × Code × Pos)) := (fun os => segRunT treeTable pw w (nat_lit 11) (some (.ref (nat_lit 6))) (nat_lit 1) (nat_lit 244) (S12 w os) (piecesOf g13 hE hC ⟨(nat_lit 49), (nat_lit 0), (nat_lit 52), (nat_lit 17)⟩ hB), fun os => some (Flow.next, S13 w os, hC, ⟨(nat_lit 53), (nat_lit 0), (nat_lit 56), (nat_lit 17)⟩))
theorem q13_eq : HD.seg pw (nat_lit 11) (some (.ref (nat_lit 6))) (nat_lit 244) S12 S13 g13 hE hC ⟨(nat_lit 49), (nat_lit 0), (nat_lit 52), (nat_lit 17)⟩ ⟨(nat_lit 53), (nat_lit 0), (nat_lit 56), (nat_lit 17)⟩ hB = q13 := by kernel_rfl
name_quick YK4013 for q13 by q13_eq
theorem i13 (w : World) : (Fast.YK4013 w).1 = (Fast.YK4013 w).2 := by kernel_rfl
theorem h13 : HD.Ok (HD.seg pw (nat_lit 11) (some (.ref (nat_lit 6))) (nat_lit 244) S12 S13 g13 hE hC ⟨(nat_lit 49), (nat_lit 0), (nat_lit 52), (nat_lit 17)⟩ ⟨(nat_lit 53), (nat_lit 0), (nat_lit 56), (nat_lit 17)⟩ hB) := HD.by1 Fast.YK4013_eq i13
noncomputable def o3_14 (P : Params) : Obj := ⟨(.type "dict"), none, (.dict #[⟨(PyData.keyHash P x0), (.str x0 (nat_lit 165)), (.str x169 (nat_lit 194))⟩, ⟨(PyData.keyHash P x2), (.str x2 (nat_lit 166)), .none⟩, ⟨(PyData.keyHash P x3), (.str x3 (nat_lit 167)), .none⟩, ⟨(PyData.keyHash P x4), (.str x4 (nat_lit 168)), (.builtin "__main__.__loader__#opaque")⟩, ⟨(PyData.keyHash P x5), (.str x5 (nat_lit 169)), .none⟩, ⟨(PyData.keyHash P x161), (.str x161 (nat_lit 170)), (.ref (nat_lit 6))⟩, ⟨(PyData.keyHash P x162), (.str x162 (nat_lit 171)), (.ref (nat_lit 4))⟩, ⟨(PyData.keyHash P x163), (.str x163 (nat_lit 173)), (.str x164 (nat_lit 172))⟩, ⟨(PyData.keyHash P x165), (.str x165 (nat_lit 174)), .none⟩, ⟨(PyData.keyHash P x167), (.str x167 (nat_lit 193)), (.ref (nat_lit 21))⟩, ⟨(PyData.keyHash P x170), (.str x170 (nat_lit 220)), (.ref (nat_lit 38))⟩, ⟨(PyData.keyHash P x179), (.str x179 (nat_lit 243)), (.ref (nat_lit 58))⟩, ⟨(PyData.keyHash P x181), (.str x181 (nat_lit 266)), (.ref (nat_lit 77))⟩, ⟨(PyData.keyHash P x183), (.str x183 (nat_lit 289)), (.ref (nat_lit 96))⟩, ⟨(PyData.keyHash P x185), (.str x185 (nat_lit 312)), (.ref (nat_lit 115))⟩, ⟨(PyData.keyHash P x187), (.str x187 (nat_lit 335)), (.ref (nat_lit 134))⟩, ⟨(PyData.keyHash P x189), (.str x189 (nat_lit 358)), (.ref (nat_lit 153))⟩, ⟨(PyData.keyHash P x191), (.str x191 (nat_lit 381)), (.ref (nat_lit 172))⟩, ⟨(PyData.keyHash P x193), (.str x193 (nat_lit 404)), (.ref (nat_lit 191))⟩, ⟨(PyData.keyHash P x195), (.str x195 (nat_lit 427)), (.ref (nat_lit 210))⟩, ⟨(PyData.keyHash P x197), (.str x197 (nat_lit 450)), (.ref (nat_lit 229))⟩, ⟨(PyData.keyHash P x199), (.str x199 (nat_lit 473)), (.ref (nat_lit 248))⟩, ⟨(PyData.keyHash P x201), (.str x201 (nat_lit 496)), (.ref (nat_lit 267))⟩, ⟨(PyData.keyHash P x203), (.str x203 (nat_lit 519)), (.ref (nat_lit 286))⟩] (nat_lit 24)), #[]⟩
noncomputable def o12_14 (P : Params) : Obj := ⟨.none, none, (.fields #[(.int (.ofNat (nat_lit 1)) (nat_lit 0)), (.int (.ofNat (nat_lit 0)) (nat_lit 0)), (.ref (nat_lit 20)), (.int (.ofNat (nat_lit 5)) (nat_lit 0)), (.int (.ofNat (nat_lit 0)) (nat_lit 0)), (.ref (nat_lit 27)), (.int (.ofNat (nat_lit 9)) (nat_lit 0)), (.int (.ofNat (nat_lit 0)) (nat_lit 0)), (.ref (nat_lit 47)), (.int (.ofNat (nat_lit 13)) (nat_lit 0)), (.int (.ofNat (nat_lit 0)) (nat_lit 0)), (.ref (nat_lit 66)), (.int (.ofNat (nat_lit 17)) (nat_lit 0)), (.int (.ofNat (nat_lit 0)) (nat_lit 0)), (.ref (nat_lit 85)), (.int (.ofNat (nat_lit 21)) (nat_lit 0)), (.int (.ofNat (nat_lit 0)) (nat_lit 0)), (.ref (nat_lit 104)), (.int (.ofNat (nat_lit 25)) (nat_lit 0)), (.int (.ofNat (nat_lit 0)) (nat_lit 0)), (.ref (nat_lit 123)), (.int (.ofNat (nat_lit 29)) (nat_lit 0)), (.int (.ofNat (nat_lit 0)) (nat_lit 0)), (.ref (nat_lit 142)), (.int (.ofNat (nat_lit 33)) (nat_lit 0)), (.int (.ofNat (nat_lit 0)) (nat_lit 0)), (.ref (nat_lit 161)), (.int (.ofNat (nat_lit 37)) (nat_lit 0)), (.int (.ofNat (nat_lit 0)) (nat_lit 0)), (.ref (nat_lit 180)), (.int (.ofNat (nat_lit 41)) (nat_lit 0)), (.int (.ofNat (nat_lit 0)) (nat_lit 0)), (.ref (nat_lit 199)), (.int (.ofNat (nat_lit 45)) (nat_lit 0)), (.int (.ofNat (nat_lit 0)) (nat_lit 0)), (.ref (nat_lit 218)), (.int (.ofNat (nat_lit 49)) (nat_lit 0)), (.int (.ofNat (nat_lit 0)) (nat_lit 0)), (.ref (nat_lit 237)), (.int (.ofNat (nat_lit 53)) (nat_lit 0)), (.int (.ofNat (nat_lit 0)) (nat_lit 0)), (.ref (nat_lit 256)), (.int (.ofNat (nat_lit 57)) (nat_lit 0)), (.int (.ofNat (nat_lit 0)) (nat_lit 0)), (.ref (nat_lit 275))]), #[]⟩
noncomputable def o38_14 (P : Params) : Obj := ⟨(.type "type"), none, (.cls ⟨x170, [(.type "ValueError")], [(.ref (nat_lit 38)), (.type "ValueError"), (.type "Exception"), (.type "BaseException"), (.type "object")], (nat_lit 37), x170, true, [], [(.ref (nat_lit 58)), (.ref (nat_lit 77)), (.ref (nat_lit 96)), (.ref (nat_lit 115)), (.ref (nat_lit 134)), (.ref (nat_lit 153)), (.ref (nat_lit 172)), (.ref (nat_lit 191)), (.ref (nat_lit 210)), (.ref (nat_lit 229)), (.ref (nat_lit 248)), (.ref (nat_lit 267)), (.ref (nat_lit 286))], false, none, false⟩), #[(some (.ref (nat_lit 22))), none, (some (.str x170 (nat_lit 196))), (some (.str x170 (nat_lit 204))), (some (.builtin "ValueError.__new__")), (some (.bool true))]⟩
noncomputable def o270_14 (P : Params) : Obj := ⟨(.type "tuple"), none, (.seq #[(.ref (nat_lit 38))] (nat_lit 0)), #[]⟩
noncomputable def o271_14 (P : Params) : Obj := ⟨(.type "builtin_function_or_method"), none, (.fields #[(.builtin "type.__prepare__"), (.type "type")]), #[]⟩
noncomputable def o272_14 (P : Params) : Obj := ⟨(.type "dict"), none, (.dict #[⟨(PyData.keyHash P x171), (.str x171 (nat_lit 504)), (.str x169 (nat_lit 194))⟩, ⟨(PyData.keyHash P x172), (.str x172 (nat_lit 506)), (.str x203 (nat_lit 505))⟩, ⟨(PyData.keyHash P x173), (.str x173 (nat_lit 508)), (.int (.ofNat (nat_lit 57)) (nat_lit 507))⟩, ⟨(PyData.keyHash P x174), (.str x174 (nat_lit 515)), (.ref (nat_lit 283))⟩, ⟨(PyData.keyHash P x175), (.str x175 (nat_lit 516)), (.ref (nat_lit 284))⟩] (nat_lit 5)), #[]⟩
noncomputable def o273_14 (P : Params) : Obj := ⟨(.type "tuple"), none, (.seq #[] (nat_lit 0)), #[]⟩
noncomputable def o274_14 (P : Params) : Obj := ⟨.none, none, (.fields #[(.int (.ofNat (nat_lit 59)) (nat_lit 0)), (.int (.ofNat (nat_lit 4)) (nat_lit 0)), (.ref (nat_lit 282))]), #[]⟩
noncomputable def o275_14 (P : Params) : Obj := ⟨(.type "code"), none, (.fields #[(.str x203 (nat_lit 499)), (.str x203 (nat_lit 500)), (.str x164 (nat_lit 501)), (.int (.ofNat (nat_lit 57)) (nat_lit 0)), (.int (.ofNat (nat_lit 0)) (nat_lit 0)), (.int (.ofNat (nat_lit 0)) (nat_lit 0)), (.int (.ofNat (nat_lit 0)) (nat_lit 0)), (.int (.ofNat (nat_lit 0)) (nat_lit 0)), (.ref (nat_lit 273)), (.bool false), (.int (.ofNat (nat_lit 181)) (nat_lit 0)), (.ref (nat_lit 274)), .none, .none, .none, .none, (.int (.ofNat (nat_lit 502)) (nat_lit 0)), (.int (.ofNat (nat_lit 57)) (nat_lit 0)), (.str x164 (nat_lit 503))]), #[]⟩
noncomputable def o276_14 (P : Params) : Obj := ⟨(.type "frame"), none, .plain, #[(some (.ref (nat_lit 275))), (some (.ref (nat_lit 3))), (some (.ref (nat_lit 272))), none, (some (.str x169 (nat_lit 194))), none, (some (.ref (nat_lit 0)))]⟩
noncomputable def o277_14 (P : Params) : Obj := ⟨(.type "tuple"), none, (.seq #[] (nat_lit 0)), #[]⟩
noncomputable def o278_14 (P : Params) : Obj := ⟨.none, none, (.fields #[]), #[]⟩
noncomputable def o279_14 (P : Params) : Obj := ⟨(.type "tuple"), none, (.seq #[(.str x176 (nat_lit 512))] (nat_lit 0)), #[]⟩
noncomputable def o280_14 (P : Params) : Obj := ⟨(.type "tuple"), none, (.seq #[] (nat_lit 0)), #[]⟩
noncomputable def o281_14 (P : Params) : Obj := ⟨.none, none, (.func ⟨x174, x204, L2.defArgs (L2.inClass (ht 15) 0), .stmts (L2.defBody (L2.inClass (ht 15) 0)), L2.defScope (L2.inClass (ht 15) 0), (nat_lit 0), [], .none, .none, .none, .none, none, .none, .none, (nat_lit 0)⟩), #[]⟩
noncomputable def o282_14 (P : Params) : Obj := ⟨(.type "code"), none, (.fields #[(.str x174 (nat_lit 509)), (.str x204 (nat_lit 510)), (.str x164 (nat_lit 511)), (.int (.ofNat (nat_lit 59)) (nat_lit 0)), (.int (.ofNat (nat_lit 1)) (nat_lit 0)), (.int (.ofNat (nat_lit 0)) (nat_lit 0)), (.int (.ofNat (nat_lit 0)) (nat_lit 0)), (.int (.ofNat (nat_lit 3)) (nat_lit 0)), (.ref (nat_lit 277)), (.bool true), (.int (.ofNat (nat_lit 181)) (nat_lit 0)), (.ref (nat_lit 278)), .none, (.ref (nat_lit 279)), (.ref (nat_lit 280)), (.ref (nat_lit 281)), (.int (.ofNat (nat_lit 513)) (nat_lit 0)), (.int (.ofNat (nat_lit 59)) (nat_lit 0)), (.str x164 (nat_lit 514))]), #[]⟩
noncomputable def o283_14 (P : Params) : Obj := ⟨(.type "function"), none, (.func ⟨x174, x204, L2.defArgs (L2.inClass (ht 15) 0), .stmts (L2.defBody (L2.inClass (ht 15) 0)), L2.defScope (L2.inClass (ht 15) 0), (nat_lit 3), [], .none, .none, .none, (.str x169 (nat_lit 194)), none, (.ref (nat_lit 282)), .none, (nat_lit 0)⟩), #[]⟩
noncomputable def o284_14 (P : Params) : Obj := ⟨(.type "tuple"), none, (.seq #[] (nat_lit 0)), #[]⟩
noncomputable def o285_14 (P : Params) : Obj := ⟨(.type "dict"), none, (.dict #[⟨(PyData.keyHash P x171), (.str x171 (nat_lit 504)), (.str x169 (nat_lit 194))⟩, ⟨(PyData.keyHash P x173), (.str x173 (nat_lit 508)), (.int (.ofNat (nat_lit 57)) (nat_lit 507))⟩, ⟨(PyData.keyHash P x174), (.str x174 (nat_lit 515)), (.ref (nat_lit 283))⟩, ⟨(PyData.keyHash P x175), (.str x175 (nat_lit 516)), (.ref (nat_lit 284))⟩, ⟨(PyData.keyHash P x2), (.str x2 (nat_lit 517)), .none⟩] (nat_lit 2)), #[]⟩
noncomputable def o286_14 (P : Params) : Obj := ⟨(.type "type"), none, (.cls ⟨x203, [(.ref (nat_lit 38))], [(.ref (nat_lit 286)), (.ref (nat_lit 38)), (.type "ValueError"), (.type "Exception"), (.type "BaseException"), (.type "object")], (nat_lit 285), x203, true, [], [], false, none, false⟩), #[(some (.ref (nat_lit 270))), none, (some (.str x203 (nat_lit 497))), (some (.str x203 (nat_lit 505))), (some (.builtin "ValueError.__new__")), (some (.bool true))]⟩
noncomputable def o287_14 (P : Params) : Obj := ⟨(.type "super"), none, (.fields #[(.ref (nat_lit 286)), (.ref (nat_lit 286)), (.ref (nat_lit 286))]), #[]⟩
noncomputable def o288_14 (P : Params) : Obj := ⟨(.type "builtin_function_or_method"), none, (.fields #[(.builtin "object.__init_subclass__"), (.ref (nat_lit 286))]), #[]⟩
noncomputable def g14 : List Stmt := [ht 15]
noncomputable def T14 (P : Params) : BT := (((((((((((((((((((((((T13 P).ins (nat_lit 3) (o3_14 P)).ins (nat_lit 12) (o12_14 P)).ins (nat_lit 38) (o38_14 P)).ins (nat_lit 270) (o270_14 P)).ins (nat_lit 271) (o271_14 P)).ins (nat_lit 272) (o272_14 P)).ins (nat_lit 273) (o273_14 P)).ins (nat_lit 274) (o274_14 P)).ins (nat_lit 275) (o275_14 P)).ins (nat_lit 276) (o276_14 P)).ins (nat_lit 277) (o277_14 P)).ins (nat_lit 278) (o278_14 P)).ins (nat_lit 279) (o279_14 P)).ins (nat_lit 280) (o280_14 P)).ins (nat_lit 281) (o281_14 P)).ins (nat_lit 282) (o282_14 P)).ins (nat_lit 283) (o283_14 P)).ins (nat_lit 284) (o284_14 P)).ins (nat_lit 285) (o285_14 P)).ins (nat_lit 286) (o286_14 P)).ins (nat_lit 287) (o287_14 P)).ins (nat_lit 288) (o288_14 P))
noncomputable def lf14 : Life := ⟨[], [], [], (nat_lit 0), [], [], false, #[], [], (nat_lit 0), false, false, false, (.ofNat (nat_lit 0)), [(.ofNat (nat_lit 2000)), (.ofNat (nat_lit 10)), (.ofNat (nat_lit 10))], false, (nat_lit 0), true, [], [], (nat_lit 0), false⟩
noncomputable abbrev S14 (w : World) (os : OsState) : SharedT := ⟨T14 w.params, nat_lit 289, lf14, Array.mk [], ⟨(nat_lit 0), (nat_lit 0), (nat_lit 0), (nat_lit 0)⟩, nat_lit 520, os⟩
noncomputable def q14 (w : World) : (OsState → Option (Flow × SharedT × Code × Pos)) × (OsState → Option (Flow × SharedT × Code × Pos)) := (fun os => segRunT treeTable pw w (nat_lit 11) (some (.ref (nat_lit 6))) (nat_lit 1) (nat_lit 244) (S13 w os) (piecesOf g14 hE hC ⟨(nat_lit 53), (nat_lit 0), (nat_lit 56), (nat_lit 17)⟩ hB), fun os => some (Flow.next, S14 w os, hC, ⟨(nat_lit 57), (nat_lit 0), (nat_lit 60), (nat_lit 17)⟩))
theorem q14_eq : HD.seg pw (nat_lit 11) (some (.ref (nat_lit 6))) (nat_lit 244) S13 S14 g14 hE hC ⟨(nat_lit 53), (nat_lit 0), (nat_lit 56), (nat_lit 17)⟩ ⟨(nat_lit 57), (nat_lit 0), (nat_lit 60), (nat_lit 17)⟩ hB = q14 := by kernel_rfl
name_quick YK4014 for q14 by q14_eq
theorem i14 (w : World) : (Fast.YK4014 w).1 = (Fast.YK4014 w).2 := by kernel_rfl
theorem h14 : HD.Ok (HD.seg pw (nat_lit 11) (some (.ref (nat_lit 6))) (nat_lit 244) S13 S14 g14 hE hC ⟨(nat_lit 53), (nat_lit 0), (nat_lit 56), (nat_lit 17)⟩ ⟨(nat_lit 57), (nat_lit 0), (nat_lit 60), (nat_lit 17)⟩ hB) := HD.by1 Fast.YK4014_eq i14
noncomputable def o3_15 (P : Params) : Obj := ⟨(.type "dict"), none, (.dict #[⟨(PyData.keyHash P x0), (.str x0 (nat_lit 165)), (.str x207 (nat_lit 543))⟩, ⟨(PyData.keyHash P x2), (.str x2 (nat_lit 166)), .none⟩, ⟨(PyData.keyHash P x3), (.str x3 (nat_lit 167)), .none⟩, ⟨(PyData.keyHash P x4), (.str x4 (nat_lit 168)), (.builtin "__main__.__loader__#opaque")⟩, ⟨(PyData.keyHash P x5), (.str x5 (nat_lit 169)), .none⟩, ⟨(PyData.keyHash P x161), (.str x161 (nat_lit 170)), (.ref (nat_lit 6))⟩, ⟨(PyData.keyHash P x162), (.str x162 (nat_lit 171)), (.ref (nat_lit 4))⟩, ⟨(PyData.keyHash P x163), (.str x163 (nat_lit 173)), (.str x164 (nat_lit 172))⟩, ⟨(PyData.keyHash P x165), (.str x165 (nat_lit 174)), .none⟩, ⟨(PyData.keyHash P x167), (.str x167 (nat_lit 193)), (.ref (nat_lit 21))⟩, ⟨(PyData.keyHash P x170), (.str x170 (nat_lit 220)), (.ref (nat_lit 38))⟩, ⟨(PyData.keyHash P x179), (.str x179 (nat_lit 243)), (.ref (nat_lit 58))⟩, ⟨(PyData.keyHash P x181), (.str x181 (nat_lit 266)), (.ref (nat_lit 77))⟩, ⟨(PyData.keyHash P x183), (.str x183 (nat_lit 289)), (.ref (nat_lit 96))⟩, ⟨(PyData.keyHash P x185), (.str x185 (nat_lit 312)), (.ref (nat_lit 115))⟩, ⟨(PyData.keyHash P x187), (.str x187 (nat_lit 335)), (.ref (nat_lit 134))⟩, ⟨(PyData.keyHash P x189), (.str x189 (nat_lit 358)), (.ref (nat_lit 153))⟩, ⟨(PyData.keyHash P x191), (.str x191 (nat_lit 381)), (.ref (nat_lit 172))⟩, ⟨(PyData.keyHash P x193), (.str x193 (nat_lit 404)), (.ref (nat_lit 191))⟩, ⟨(PyData.keyHash P x195), (.str x195 (nat_lit 427)), (.ref (nat_lit 210))⟩, ⟨(PyData.keyHash P x197), (.str x197 (nat_lit 450)), (.ref (nat_lit 229))⟩, ⟨(PyData.keyHash P x199), (.str x199 (nat_lit 473)), (.ref (nat_lit 248))⟩, ⟨(PyData.keyHash P x201), (.str x201 (nat_lit 496)), (.ref (nat_lit 267))⟩, ⟨(PyData.keyHash P x203), (.str x203 (nat_lit 519)), (.ref (nat_lit 286))⟩, ⟨(PyData.keyHash P x205), (.str x205 (nat_lit 542)), (.ref (nat_lit 305))⟩, ⟨(PyData.keyHash P x208), (.str x208 (nat_lit 546)), (.int (.ofNat (nat_lit 600)) (nat_lit 545))⟩, ⟨(PyData.keyHash P x209), (.str x209 (nat_lit 548)), (.int (.ofNat (nat_lit 40)) (nat_lit 547))⟩, ⟨(PyData.keyHash P x210), (.str x210 (nat_lit 550)), (.int (.ofNat (nat_lit 99)) (nat_lit 549))⟩] (nat_lit 28)), #[]⟩
noncomputable def o12_15 (P : Params) : Obj := ⟨.none, none, (.fields #[(.int (.ofNat (nat_lit 1)) (nat_lit 0)), (.int (.ofNat (nat_lit 0)) (nat_lit 0)), (.ref (nat_lit 20)), (.int (.ofNat (nat_lit 5)) (nat_lit 0)), (.int (.ofNat (nat_lit 0)) (nat_lit 0)), (.ref (nat_lit 27)), (.int (.ofNat (nat_lit 9)) (nat_lit 0)), (.int (.ofNat (nat_lit 0)) (nat_lit 0)), (.ref (nat_lit 47)), (.int (.ofNat (nat_lit 13)) (nat_lit 0)), (.int (.ofNat (nat_lit 0)) (nat_lit 0)), (.ref (nat_lit 66)), (.int (.ofNat (nat_lit 17)) (nat_lit 0)), (.int (.ofNat (nat_lit 0)) (nat_lit 0)), (.ref (nat_lit 85)), (.int (.ofNat (nat_lit 21)) (nat_lit 0)), (.int (.ofNat (nat_lit 0)) (nat_lit 0)), (.ref (nat_lit 104)), (.int (.ofNat (nat_lit 25)) (nat_lit 0)), (.int (.ofNat (nat_lit 0)) (nat_lit 0)), (.ref (nat_lit 123)), (.int (.ofNat (nat_lit 29)) (nat_lit 0)), (.int (.ofNat (nat_lit 0)) (nat_lit 0)), (.ref (nat_lit 142)), (.int (.ofNat (nat_lit 33)) (nat_lit 0)), (.int (.ofNat (nat_lit 0)) (nat_lit 0)), (.ref (nat_lit 161)), (.int (.ofNat (nat_lit 37)) (nat_lit 0)), (.int (.ofNat (nat_lit 0)) (nat_lit 0)), (.ref (nat_lit 180)), (.int (.ofNat (nat_lit 41)) (nat_lit 0)), (.int (.ofNat (nat_lit 0)) (nat_lit 0)), (.ref (nat_lit 199)), (.int (.ofNat (nat_lit 45)) (nat_lit 0)), (.int (.ofNat (nat_lit 0)) (nat_lit 0)), (.ref (nat_lit 218)), (.int (.ofNat (nat_lit 49)) (nat_lit 0)), (.int (.ofNat (nat_lit 0)) (nat_lit 0)), (.ref (nat_lit 237)), (.int (.ofNat (nat_lit 53)) (nat_lit 0)), (.int (.ofNat (nat_lit 0)) (nat_lit 0)), (.ref (nat_lit 256)), (.int (.ofNat (nat_lit 57)) (nat_lit 0)), (.int (.ofNat (nat_lit 0)) (nat_lit 0)), (.ref (nat_lit 275)), (.int (.ofNat (nat_lit 61)) (nat_lit 0)), (.int (.ofNat (nat_lit 0)) (nat_lit 0)), (.ref (nat_lit 294))]), #[]⟩
noncomputable def o38_15 (P : Params) : Obj := ⟨(.type "type"), none, (.cls ⟨x170, [(.type "ValueError")], [(.ref (nat_lit 38)), (.type "ValueError"), (.type "Exception"), (.type "BaseException"), (.type "object")], (nat_lit 37), x170, true, [], [(.ref (nat_lit 58)), (.ref (nat_lit 77)), (.ref (nat_lit 96)), (.ref (nat_lit 115)), (.ref (nat_lit 134)), (.ref (nat_lit 153)), (.ref (nat_lit 172)), (.ref (nat_lit 191)), (.ref (nat_lit 210)), (.ref (nat_lit 229)), (.ref (nat_lit 248)), (.ref (nat_lit 267)), (.ref (nat_lit 286)), (.ref (nat_lit 305))], false, none, false⟩), #[(some (.ref (nat_lit 22))), none, (some (.str x170 (nat_lit 196))), (some (.str x170 (nat_lit 204))), (some (.builtin "ValueError.__new__")), (some (.bool true))]⟩
noncomputable def o289_15 (P : Params) : Obj := ⟨(.type "tuple"), none, (.seq #[(.ref (nat_lit 38))] (nat_lit 0)), #[]⟩
noncomputable def o290_15 (P : Params) : Obj := ⟨(.type "builtin_function_or_method"), none, (.fields #[(.builtin "type.__prepare__"), (.type "type")]), #[]⟩
noncomputable def o291_15 (P : Params) : Obj := ⟨(.type "dict"), none, (.dict #[⟨(PyData.keyHash P x171), (.str x171 (nat_lit 527)), (.str x169 (nat_lit 194))⟩, ⟨(PyData.keyHash P x172), (.str x172 (nat_lit 529)), (.str x205 (nat_lit 528))⟩, ⟨(PyData.keyHash P x173), (.str x173 (nat_lit 531)), (.int (.ofNat (nat_lit 61)) (nat_lit 530))⟩, ⟨(PyData.keyHash P x174), (.str x174 (nat_lit 538)), (.ref (nat_lit 302))⟩, ⟨(PyData.keyHash P x175), (.str x175 (nat_lit 539)), (.ref (nat_lit 303))⟩] (nat_lit 5)), #[]⟩
noncomputable def o292_15 (P : Params) : Obj := ⟨(.type "tuple"), none, (.seq #[] (nat_lit 0)), #[]⟩
noncomputable def o293_15 (P : Params) : Obj := ⟨.none, none, (.fields #[(.int (.ofNat (nat_lit 63)) (nat_lit 0)), (.int (.ofNat (nat_lit 4)) (nat_lit 0)), (.ref (nat_lit 301))]), #[]⟩
noncomputable def o294_15 (P : Params) : Obj := ⟨(.type "code"), none, (.fields #[(.str x205 (nat_lit 522)), (.str x205 (nat_lit 523)), (.str x164 (nat_lit 524)), (.int (.ofNat (nat_lit 61)) (nat_lit 0)), (.int (.ofNat (nat_lit 0)) (nat_lit 0)), (.int (.ofNat (nat_lit 0)) (nat_lit 0)), (.int (.ofNat (nat_lit 0)) (nat_lit 0)), (.int (.ofNat (nat_lit 0)) (nat_lit 0)), (.ref (nat_lit 292)), (.bool false), (.int (.ofNat (nat_lit 181)) (nat_lit 0)), (.ref (nat_lit 293)), .none, .none, .none, .none, (.int (.ofNat (nat_lit 525)) (nat_lit 0)), (.int (.ofNat (nat_lit 61)) (nat_lit 0)), (.str x164 (nat_lit 526))]), #[]⟩
noncomputable def o295_15 (P : Params) : Obj := ⟨(.type "frame"), none, .plain, #[(some (.ref (nat_lit 294))), (some (.ref (nat_lit 3))), (some (.ref (nat_lit 291))), none, (some (.str x169 (nat_lit 194))), none, (some (.ref (nat_lit 0)))]⟩
noncomputable def o296_15 (P : Params) : Obj := ⟨(.type "tuple"), none, (.seq #[] (nat_lit 0)), #[]⟩
noncomputable def o297_15 (P : Params) : Obj := ⟨.none, none, (.fields #[]), #[]⟩
noncomputable def o298_15 (P : Params) : Obj := ⟨(.type "tuple"), none, (.seq #[(.str x176 (nat_lit 535))] (nat_lit 0)), #[]⟩
noncomputable def o299_15 (P : Params) : Obj := ⟨(.type "tuple"), none, (.seq #[] (nat_lit 0)), #[]⟩
noncomputable def o300_15 (P : Params) : Obj := ⟨.none, none, (.func ⟨x174, x206, L2.defArgs (L2.inClass (ht 16) 0), .stmts (L2.defBody (L2.inClass (ht 16) 0)), L2.defScope (L2.inClass (ht 16) 0), (nat_lit 0), [], .none, .none, .none, .none, none, .none, .none, (nat_lit 0)⟩), #[]⟩
noncomputable def o301_15 (P : Params) : Obj := ⟨(.type "code"), none, (.fields #[(.str x174 (nat_lit 532)), (.str x206 (nat_lit 533)), (.str x164 (nat_lit 534)), (.int (.ofNat (nat_lit 63)) (nat_lit 0)), (.int (.ofNat (nat_lit 1)) (nat_lit 0)), (.int (.ofNat (nat_lit 0)) (nat_lit 0)), (.int (.ofNat (nat_lit 0)) (nat_lit 0)), (.int (.ofNat (nat_lit 3)) (nat_lit 0)), (.ref (nat_lit 296)), (.bool true), (.int (.ofNat (nat_lit 181)) (nat_lit 0)), (.ref (nat_lit 297)), .none, (.ref (nat_lit 298)), (.ref (nat_lit 299)), (.ref (nat_lit 300)), (.int (.ofNat (nat_lit 536)) (nat_lit 0)), (.int (.ofNat (nat_lit 63)) (nat_lit 0)), (.str x164 (nat_lit 537))]), #[]⟩
noncomputable def o302_15 (P : Params) : Obj := ⟨(.type "function"), none, (.func ⟨x174, x206, L2.defArgs (L2.inClass (ht 16) 0), .stmts (L2.defBody (L2.inClass (ht 16) 0)), L2.defScope (L2.inClass (ht 16) 0), (nat_lit 3), [], .none, .none, .none, (.str x169 (nat_lit 194)), none, (.ref (nat_lit 301)), .none, (nat_lit 0)⟩), #[]⟩
noncomputable def o303_15 (P : Params) : Obj := ⟨(.type "tuple"), none, (.seq #[] (nat_lit 0)), #[]⟩
noncomputable def o304_15 (P : Params) : Obj := ⟨(.type "dict"), none, (.dict #[⟨(PyData.keyHash P x171), (.str x171 (nat_lit 527)), (.str x169 (nat_lit 194))⟩, ⟨(PyData.keyHash P x173), (.str x173 (nat_lit 531)), (.int (.ofNat (nat_lit 61)) (nat_lit 530))⟩, ⟨(PyData.keyHash P x174), (.str x174 (nat_lit 538)), (.ref (nat_lit 302))⟩, ⟨(PyData.keyHash P x175), (.str x175 (nat_lit 539)), (.ref (nat_lit 303))⟩, ⟨(PyData.keyHash P x2), (.str x2 (nat_lit 540)), .none⟩] (nat_lit 2)), #[]⟩
noncomputable def o305_15 (P : Params) : Obj := ⟨(.type "type"), none, (.cls ⟨x205, [(.ref (nat_lit 38))], [(.ref (nat_lit 305)), (.ref (nat_lit 38)), (.type "ValueError"), (.type "Exception"), (.type "BaseException"), (.type "object")], (nat_lit 304), x205, true, [], [], false, none, false⟩), #[(some (.ref (nat_lit 289))), none, (some (.str x205 (nat_lit 520))), (some (.str x205 (nat_lit 528))), (some (.builtin "ValueError.__new__")), (some (.bool true))]⟩
noncomputable def o306_15 (P : Params) : Obj := ⟨(.type "super"), none, (.fields #[(.ref (nat_lit 305)), (.ref (nat_lit 305)), (.ref (nat_lit 305))]), #[]⟩
noncomputable def o307_15 (P : Params) : Obj := ⟨(.type "builtin_function_or_method"), none, (.fields #[(.builtin "object.__init_subclass__"), (.ref (nat_lit 305))]), #[]⟩
noncomputable def g15 : List Stmt := [ht 16, ht 17, ht 18, ht 19, ht 20]
noncomputable def T15 (P : Params) : BT := (((((((((((((((((((((((T14 P).ins (nat_lit 3) (o3_15 P)).ins (nat_lit 12) (o12_15 P)).ins (nat_lit 38) (o38_15 P)).ins (nat_lit 289) (o289_15 P)).ins (nat_lit 290) (o290_15 P)).ins (nat_lit 291) (o291_15 P)).ins (nat_lit 292) (o292_15 P)).ins (nat_lit 293) (o293_15 P)).ins (nat_lit 294) (o294_15 P)).ins (nat_lit 295) (o295_15 P)).ins (nat_lit 296) (o296_15 P)).ins (nat_lit 297) (o297_15 P)).ins (nat_lit 298) (o298_15 P)).ins (nat_lit 299) (o299_15 P)).ins (nat_lit 300) (o300_15 P)).ins (nat_lit 301) (o301_15 P)).ins (nat_lit 302) (o302_15 P)).ins (nat_lit 303) (o303_15 P)).ins (nat_lit 304) (o304_15 P)).ins (nat_lit 305) (o305_15 P)).ins (nat_lit 306) (o306_15 P)).ins (nat_lit 307) (o307_15 P))
noncomputable def lf15 : Life := ⟨[], [], [], (nat_lit 0), [], [], false, #[], [], (nat_lit 0), false, false, false, (.ofNat (nat_lit 0)), [(.ofNat (nat_lit 2000)), (.ofNat (nat_lit 10)), (.ofNat (nat_lit 10))], false, (nat_lit 0), true, [], [], (nat_lit 0), false⟩
noncomputable abbrev S15 (w : World) (os : OsState) : SharedT := ⟨T15 w.params, nat_lit 308, lf15, Array.mk [], ⟨(nat_lit 0), (nat_lit 0), (nat_lit 0), (nat_lit 0)⟩, nat_lit 551, os⟩
noncomputable def q15 (w : World) : (OsState → Option (Flow × SharedT × Code × Pos)) × (OsState → Option (Flow × SharedT × Code × Pos)) := (fun os => segRunT treeTable pw w (nat_lit 11) (some (.ref (nat_lit 6))) (nat_lit 1) (nat_lit 280) (S14 w os) (piecesOf g15 hE hC ⟨(nat_lit 57), (nat_lit 0), (nat_lit 60), (nat_lit 17)⟩ hB), fun os => some (Flow.next, S15 w os, hC, ⟨(nat_lit 68), (nat_lit 0), (nat_lit 68), (nat_lit 13)⟩))
theorem q15_eq : HD.seg pw (nat_lit 11) (some (.ref (nat_lit 6))) (nat_lit 280) S14 S15 g15 hE hC ⟨(nat_lit 57), (nat_lit 0), (nat_lit 60), (nat_lit 17)⟩ ⟨(nat_lit 68), (nat_lit 0), (nat_lit 68), (nat_lit 13)⟩ hB = q15 := by kernel_rfl
name_quick YK4015 for q15 by q15_eq
theorem i15 (w : World) : (Fast.YK4015 w).1 = (Fast.YK4015 w).2 := by kernel_rfl
theorem h15 : HD.Ok (HD.seg pw (nat_lit 11) (some (.ref (nat_lit 6))) (nat_lit 280) S14 S15 g15 hE hC ⟨(nat_lit 57), (nat_lit 0), (nat_lit 60), (nat_lit 17)⟩ ⟨(nat_lit 68), (nat_lit 0), (nat_lit 68), (nat_lit 13)⟩ hB) := HD.by1 Fast.YK4015_eq i15
noncomputable def o3_16 (P : Params) : Obj := ⟨(.type "dict"), none, (.dict #[⟨(PyData.keyHash P x0), (.str x0 (nat_lit 165)), (.str x207 (nat_lit 543))⟩, ⟨(PyData.keyHash P x2), (.str x2 (nat_lit 166)), .none⟩, ⟨(PyData.keyHash P x3), (.str x3 (nat_lit 167)), .none⟩, ⟨(PyData.keyHash P x4), (.str x4 (nat_lit 168)), (.builtin "__main__.__loader__#opaque")⟩, ⟨(PyData.keyHash P x5), (.str x5 (nat_lit 169)), .none⟩, ⟨(PyData.keyHash P x161), (.str x161 (nat_lit 170)), (.ref (nat_lit 6))⟩, ⟨(PyData.keyHash P x162), (.str x162 (nat_lit 171)), (.ref (nat_lit 4))⟩, ⟨(PyData.keyHash P x163), (.str x163 (nat_lit 173)), (.str x164 (nat_lit 172))⟩, ⟨(PyData.keyHash P x165), (.str x165 (nat_lit 174)), .none⟩, ⟨(PyData.keyHash P x167), (.str x167 (nat_lit 193)), (.ref (nat_lit 21))⟩, ⟨(PyData.keyHash P x170), (.str x170 (nat_lit 220)), (.ref (nat_lit 38))⟩, ⟨(PyData.keyHash P x179), (.str x179 (nat_lit 243)), (.ref (nat_lit 58))⟩, ⟨(PyData.keyHash P x181), (.str x181 (nat_lit 266)), (.ref (nat_lit 77))⟩, ⟨(PyData.keyHash P x183), (.str x183 (nat_lit 289)), (.ref (nat_lit 96))⟩, ⟨(PyData.keyHash P x185), (.str x185 (nat_lit 312)), (.ref (nat_lit 115))⟩, ⟨(PyData.keyHash P x187), (.str x187 (nat_lit 335)), (.ref (nat_lit 134))⟩, ⟨(PyData.keyHash P x189), (.str x189 (nat_lit 358)), (.ref (nat_lit 153))⟩, ⟨(PyData.keyHash P x191), (.str x191 (nat_lit 381)), (.ref (nat_lit 172))⟩, ⟨(PyData.keyHash P x193), (.str x193 (nat_lit 404)), (.ref (nat_lit 191))⟩, ⟨(PyData.keyHash P x195), (.str x195 (nat_lit 427)), (.ref (nat_lit 210))⟩, ⟨(PyData.keyHash P x197), (.str x197 (nat_lit 450)), (.ref (nat_lit 229))⟩, ⟨(PyData.keyHash P x199), (.str x199 (nat_lit 473)), (.ref (nat_lit 248))⟩, ⟨(PyData.keyHash P x201), (.str x201 (nat_lit 496)), (.ref (nat_lit 267))⟩, ⟨(PyData.keyHash P x203), (.str x203 (nat_lit 519)), (.ref (nat_lit 286))⟩, ⟨(PyData.keyHash P x205), (.str x205 (nat_lit 542)), (.ref (nat_lit 305))⟩, ⟨(PyData.keyHash P x208), (.str x208 (nat_lit 546)), (.int (.ofNat (nat_lit 600)) (nat_lit 545))⟩, ⟨(PyData.keyHash P x209), (.str x209 (nat_lit 548)), (.int (.ofNat (nat_lit 40)) (nat_lit 547))⟩, ⟨(PyData.keyHash P x210), (.str x210 (nat_lit 550)), (.int (.ofNat (nat_lit 99)) (nat_lit 549))⟩, ⟨(PyData.keyHash P x211), (.str x211 (nat_lit 615)), (.ref (nat_lit 308))⟩] (nat_lit 29)), #[]⟩
noncomputable def o308_16 (P : Params) : Obj := ⟨(.type "dict"), none, (.dict #[⟨(PyData.keyHash P x212), (.str x212 (nat_lit 551)), (.ref (nat_lit 309))⟩, ⟨(PyData.keyHash P x213), (.str x213 (nat_lit 553)), (.ref (nat_lit 310))⟩, ⟨(PyData.keyHash P x9), (.str x9 (nat_lit 555)), (.ref (nat_lit 311))⟩, ⟨(PyData.keyHash P x214), (.str x214 (nat_lit 559)), (.ref (nat_lit 312))⟩, ⟨(PyData.keyHash P x215), (.str x215 (nat_lit 563)), (.ref (nat_lit 313))⟩, ⟨(PyData.keyHash P x216), (.str x216 (nat_lit 568)), (.ref (nat_lit 314))⟩, ⟨(PyData.keyHash P x217), (.str x217 (nat_lit 570)), (.ref (nat_lit 315))⟩, ⟨(PyData.keyHash P x218), (.str x218 (nat_lit 574)), (.ref (nat_lit 316))⟩, ⟨(PyData.keyHash P x219), (.str x219 (nat_lit 578)), (.ref (nat_lit 317))⟩, ⟨(PyData.keyHash P x38), (.str x38 (nat_lit 580)), (.ref (nat_lit 318))⟩, ⟨(PyData.keyHash P x220), (.str x220 (nat_lit 583)), (.ref (nat_lit 319))⟩, ⟨(PyData.keyHash P x221), (.str x221 (nat_lit 589)), (.ref (nat_lit 320))⟩, ⟨(PyData.keyHash P x222), (.str x222 (nat_lit 593)), (.ref (nat_lit 321))⟩, ⟨(PyData.keyHash P x223), (.str x223 (nat_lit 598)), (.ref (nat_lit 322))⟩, ⟨(PyData.keyHash P x224), (.str x224 (nat_lit 602)), (.ref (nat_lit 323))⟩, ⟨(PyData.keyHash P x225), (.str x225 (nat_lit 607)), (.ref (nat_lit 324))⟩, ⟨(PyData.keyHash P x226), (.str x226 (nat_lit 610)), (.ref (nat_lit 325))⟩, ⟨(PyData.keyHash P x227), (.str x227 (nat_lit 613)), (.ref (nat_lit 327))⟩] (nat_lit 18)), #[]⟩
noncomputable def o309_16 (P : Params) : Obj := ⟨(.type "tuple"), none, (.seq #[] (nat_lit 0)), #[]⟩
noncomputable def o310_16 (P : Params) : Obj := ⟨(.type "tuple"), none, (.seq #[] (nat_lit 0)), #[]⟩
noncomputable def o311_16 (P : Params) : Obj := ⟨(.type "tuple"), none, (.seq #[(.str x228 (nat_lit 556)), (.str x228 (nat_lit 557))] (nat_lit 0)), #[]⟩
noncomputable def o312_16 (P : Params) : Obj := ⟨(.type "tuple"), none, (.seq #[(.str x228 (nat_lit 560)), (.str x228 (nat_lit 561))] (nat_lit 0)), #[]⟩
noncomputable def o313_16 (P : Params) : Obj := ⟨(.type "tuple"), none, (.seq #[(.str x228 (nat_lit 564)), (.str x229 (nat_lit 565)), (.str x229 (nat_lit 566))] (nat_lit 0)), #[]⟩
noncomputable def o314_16 (P : Params) : Obj := ⟨(.type "tuple"), none, (.seq #[] (nat_lit 0)), #[]⟩
noncomputable def o315_16 (P : Params) : Obj := ⟨(.type "tuple"), none, (.seq #[(.str x228 (nat_lit 571)), (.str x229 (nat_lit 572))] (nat_lit 0)), #[]⟩
noncomputable def o316_16 (P : Params) : Obj := ⟨(.type "tuple"), none, (.seq #[(.str x229 (nat_lit 575)), (.str x229 (nat_lit 576))] (nat_lit 0)), #[]⟩
noncomputable def o317_16 (P : Params) : Obj := ⟨(.type "tuple"), none, (.seq #[] (nat_lit 0)), #[]⟩
noncomputable def o318_16 (P : Params) : Obj := ⟨(.type "tuple"), none, (.seq #[(.str x229 (nat_lit 581))] (nat_lit 0)), #[]⟩
noncomputable def o319_16 (P : Params) : Obj := ⟨(.type "tuple"), none, (.seq #[(.str x228 (nat_lit 584)), (.str x229 (nat_lit 585)), (.str x229 (nat_lit 586)), (.str x229 (nat_lit 587))] (nat_lit 0)), #[]⟩
noncomputable def o320_16 (P : Params) : Obj := ⟨(.type "tuple"), none, (.seq #[(.str x228 (nat_lit 590)), (.str x229 (nat_lit 591))] (nat_lit 0)), #[]⟩
noncomputable def o321_16 (P : Params) : Obj := ⟨(.type "tuple"), none, (.seq #[(.str x228 (nat_lit 594)), (.str x229 (nat_lit 595)), (.str x229 (nat_lit 596))] (nat_lit 0)), #[]⟩
noncomputable def o322_16 (P : Params) : Obj := ⟨(.type "tuple"), none, (.seq #[(.str x228 (nat_lit 599)), (.str x229 (nat_lit 600))] (nat_lit 0)), #[]⟩
noncomputable def o323_16 (P : Params) : Obj := ⟨(.type "tuple"), none, (.seq #[(.str x228 (nat_lit 603)), (.str x229 (nat_lit 604)), (.str x229 (nat_lit 605))] (nat_lit 0)), #[]⟩
noncomputable def o324_16 (P : Params) : Obj := ⟨(.type "tuple"), none, (.seq #[(.str x229 (nat_lit 608))] (nat_lit 0)), #[]⟩
noncomputable def o325_16 (P : Params) : Obj := ⟨(.type "tuple"), none, (.seq #[(.str x229 (nat_lit 611))] (nat_lit 0)), #[]⟩
noncomputable def o326_16 (P : Params) : Obj := ⟨(.type "dict"), none, (.dict #[⟨(PyData.keyHash P x227), (.str x227 (nat_lit 613)), (.ref (nat_lit 327))⟩] (nat_lit 1)), #[]⟩
noncomputable def o327_16 (P : Params) : Obj := ⟨(.type "tuple"), none, (.seq #[] (nat_lit 0)), #[]⟩
noncomputable def g16 : List Stmt := [ht 21]
noncomputable def T16 (P : Params) : BT := ((((((((((((((((((((((T15 P).ins (nat_lit 3) (o3_16 P)).ins (nat_lit 308) (o308_16 P)).ins (nat_lit 309) (o309_16 P)).ins (nat_lit 310) (o310_16 P)).ins (nat_lit 311) (o311_16 P)).ins (nat_lit 312) (o312_16 P)).ins (nat_lit 313) (o313_16 P)).ins (nat_lit 314) (o314_16 P)).ins (nat_lit 315) (o315_16 P)).ins (nat_lit 316) (o316_16 P)).ins (nat_lit 317) (o317_16 P)).ins (nat_lit 318) (o318_16 P)).ins (nat_lit 319) (o319_16 P)).ins (nat_lit 320) (o320_16 P)).ins (nat_lit 321) (o321_16 P)).ins (nat_lit 322) (o322_16 P)).ins (nat_lit 323) (o323_16 P)).ins (nat_lit 324) (o324_16 P)).ins (nat_lit 325) (o325_16 P)).ins (nat_lit 326) (o326_16 P)).ins (nat_lit 327) (o327_16 P))
noncomputable def lf16 : Life := ⟨[], [], [], (nat_lit 0), [], [], false, #[], [], (nat_lit 0), false, false, false, (.ofNat (nat_lit 0)), [(.ofNat (nat_lit 2000)), (.ofNat (nat_lit 10)), (.ofNat (nat_lit 10))], false, (nat_lit 0), true, [], [], (nat_lit 0), false⟩
noncomputable abbrev S16 (w : World) (os : OsState) : SharedT := ⟨T16 w.params, nat_lit 328, lf16, Array.mk [], ⟨(nat_lit 0), (nat_lit 0), (nat_lit 0), (nat_lit 0)⟩, nat_lit 616, os⟩
noncomputable def q16f (w : World) : (OsState → Option (Flow × SharedT × Code × Pos)) × (OsState → Option (Flow × SharedT × Code × Pos)) := (fun os => segRunT treeTable pw (w.withFollow "special-get-raises" false) (nat_lit 11) (some (.ref (nat_lit 6))) (nat_lit 1) (nat_lit 340) (S15 (w.withFollow "special-get-raises" false) os) (piecesOf g16 hE hC ⟨(nat_lit 68), (nat_lit 0), (nat_lit 68), (nat_lit 13)⟩ hB), fun os => some (Flow.next, S16 (w.withFollow "special-get-raises" false) os, hC, ⟨(nat_lit 69), (nat_lit 0), (nat_lit 69), (nat_lit 8)⟩))
theorem q16f_eq : (fun w : World => HD.seg pw (nat_lit 11) (some (.ref (nat_lit 6))) (nat_lit 340) S15 S16 g16 hE hC ⟨(nat_lit 68), (nat_lit 0), (nat_lit 68), (nat_lit 13)⟩ ⟨(nat_lit 69), (nat_lit 0), (nat_lit 69), (nat_lit 8)⟩ hB (w.withFollow "special-get-raises" false)) = q16f := by kernel_rfl
name_quick YK4016f for q16f by q16f_eq
theorem i16f (w : World) : (Fast.YK4016f w).1 = (Fast.YK4016f w).2 := by kernel_rfl
noncomputable def q16t (w : World) : (OsState → Option (Flow × SharedT × Code × Pos)) × (OsState → Option (Flow × SharedT × Code × Pos)) := (fun os => segRunT treeTable pw (w.withFollow "special-get-raises" true) (nat_lit 11) (some (.ref (nat_lit 6))) (nat_lit 1) (nat_lit 340) (S15 (w.withFollow "special-get-raises" true) os) (piecesOf g16 hE hC ⟨(nat_lit 68), (nat_lit 0), (nat_lit 68), (nat_lit 13)⟩ hB), fun os => some (Flow.next, S16 (w.withFollow "special-get-raises" true) os, hC, ⟨(nat_lit 69), (nat_lit 0), (nat_lit 69), (nat_lit 8)⟩))
theorem q16t_eq : (fun w : World => HD.seg pw (nat_lit 11) (some (.ref (nat_lit 6))) (nat_lit 340) S15 S16 g16 hE hC ⟨(nat_lit 68), (nat_lit 0), (nat_lit 68), (nat_lit 13)⟩ ⟨(nat_lit 69), (nat_lit 0), (nat_lit 69), (nat_lit 8)⟩ hB (w.withFollow "special-get-raises" true)) = q16t := by kernel_rfl
name_quick YK4016t for q16t by q16t_eq
theorem i16t (w : World) : (Fast.YK4016t w).1 = (Fast.YK4016t w).2 := by kernel_rfl
theorem h16 : HD.Ok (HD.seg pw (nat_lit 11) (some (.ref (nat_lit 6))) (nat_lit 340) S15 S16 g16 hE hC ⟨(nat_lit 68), (nat_lit 0), (nat_lit 68), (nat_lit 13)⟩ ⟨(nat_lit 69), (nat_lit 0), (nat_lit 69), (nat_lit 8)⟩ hB) := HD.by2 "special-get-raises" Fast.YK4016f_eq Fast.YK4016t_eq i16f i16t
noncomputable def o3_17 (P : Params) : Obj := ⟨(.type "dict"), none, (.dict #[⟨(PyData.keyHash P x0), (.str x0 (nat_lit 165)), (.str x248 (nat_lit 708))⟩, ⟨(PyData.keyHash P x2), (.str x2 (nat_lit 166)), .none⟩, ⟨(PyData.keyHash P x3), (.str x3 (nat_lit 167)), .none⟩, ⟨(PyData.keyHash P x4), (.str x4 (nat_lit 168)), (.builtin "__main__.__loader__#opaque")⟩, ⟨(PyData.keyHash P x5), (.str x5 (nat_lit 169)), .none⟩, ⟨(PyData.keyHash P x161), (.str x161 (nat_lit 170)), (.ref (nat_lit 6))⟩, ⟨(PyData.keyHash P x162), (.str x162 (nat_lit 171)), (.ref (nat_lit 4))⟩, ⟨(PyData.keyHash P x163), (.str x163 (nat_lit 173)), (.str x164 (nat_lit 172))⟩, ⟨(PyData.keyHash P x165), (.str x165 (nat_lit 174)), .none⟩, ⟨(PyData.keyHash P x167), (.str x167 (nat_lit 193)), (.ref (nat_lit 21))⟩, ⟨(PyData.keyHash P x170), (.str x170 (nat_lit 220)), (.ref (nat_lit 38))⟩, ⟨(PyData.keyHash P x179), (.str x179 (nat_lit 243)), (.ref (nat_lit 58))⟩, ⟨(PyData.keyHash P x181), (.str x181 (nat_lit 266)), (.ref (nat_lit 77))⟩, ⟨(PyData.keyHash P x183), (.str x183 (nat_lit 289)), (.ref (nat_lit 96))⟩, ⟨(PyData.keyHash P x185), (.str x185 (nat_lit 312)), (.ref (nat_lit 115))⟩, ⟨(PyData.keyHash P x187), (.str x187 (nat_lit 335)), (.ref (nat_lit 134))⟩, ⟨(PyData.keyHash P x189), (.str x189 (nat_lit 358)), (.ref (nat_lit 153))⟩, ⟨(PyData.keyHash P x191), (.str x191 (nat_lit 381)), (.ref (nat_lit 172))⟩, ⟨(PyData.keyHash P x193), (.str x193 (nat_lit 404)), (.ref (nat_lit 191))⟩, ⟨(PyData.keyHash P x195), (.str x195 (nat_lit 427)), (.ref (nat_lit 210))⟩, ⟨(PyData.keyHash P x197), (.str x197 (nat_lit 450)), (.ref (nat_lit 229))⟩, ⟨(PyData.keyHash P x199), (.str x199 (nat_lit 473)), (.ref (nat_lit 248))⟩, ⟨(PyData.keyHash P x201), (.str x201 (nat_lit 496)), (.ref (nat_lit 267))⟩, ⟨(PyData.keyHash P x203), (.str x203 (nat_lit 519)), (.ref (nat_lit 286))⟩, ⟨(PyData.keyHash P x205), (.str x205 (nat_lit 542)), (.ref (nat_lit 305))⟩, ⟨(PyData.keyHash P x208), (.str x208 (nat_lit 546)), (.int (.ofNat (nat_lit 600)) (nat_lit 545))⟩, ⟨(PyData.keyHash P x209), (.str x209 (nat_lit 548)), (.int (.ofNat (nat_lit 40)) (nat_lit 547))⟩, ⟨(PyData.keyHash P x210), (.str x210 (nat_lit 550)), (.int (.ofNat (nat_lit 99)) (nat_lit 549))⟩, ⟨(PyData.keyHash P x211), (.str x211 (nat_lit 615)), (.ref (nat_lit 308))⟩, ⟨(PyData.keyHash P x230), (.str x230 (nat_lit 631)), (.ref (nat_lit 328))⟩, ⟨(PyData.keyHash P x231), (.str x231 (nat_lit 638)), (.ref (nat_lit 335))⟩, ⟨(PyData.keyHash P x233), (.str x233 (nat_lit 644)), (.ref (nat_lit 340))⟩, ⟨(PyData.keyHash P x234), (.str x234 (nat_lit 651)), (.ref (nat_lit 347))⟩, ⟨(PyData.keyHash P x236), (.str x236 (nat_lit 657)), (.ref (nat_lit 352))⟩, ⟨(PyData.keyHash P x237), (.str x237 (nat_lit 663)), (.ref (nat_lit 357))⟩, ⟨(PyData.keyHash P x238), (.str x238 (nat_lit 670)), (.ref (nat_lit 364))⟩, ⟨(PyData.keyHash P x239), (.str x239 (nat_lit 678)), (.ref (nat_lit 371))⟩, ⟨(PyData.keyHash P x242), (.str x242 (nat_lit 686)), (.ref (nat_lit 376))⟩, ⟨(PyData.keyHash P x243), (.str x243 (nat_lit 698)), (.ref (nat_lit 383))⟩, ⟨(PyData.keyHash P x247), (.str x247 (nat_lit 707)), (.ref (nat_lit 390))⟩] (nat_lit 40)), #[]⟩
noncomputable def o12_17 (P : Params) : Obj := ⟨.none, none, (.fields #[(.int (.ofNat (nat_lit 1)) (nat_lit 0)), (.int (.ofNat (nat_lit 0)) (nat_lit 0)), (.ref (nat_lit 20)), (.int (.ofNat (nat_lit 5)) (nat_lit 0)), (.int (.ofNat (nat_lit 0)) (nat_lit 0)), (.ref (nat_lit 27)), (.int (.ofNat (nat_lit 9)) (nat_lit 0)), (.int (.ofNat (nat_lit 0)) (nat_lit 0)), (.ref (nat_lit 47)), (.int (.ofNat (nat_lit 13)) (nat_lit 0)), (.int (.ofNat (nat_lit 0)) (nat_lit 0)), (.ref (nat_lit 66)), (.int (.ofNat (nat_lit 17)) (nat_lit 0)), (.int (.ofNat (nat_lit 0)) (nat_lit 0)), (.ref (nat_lit 85)), (.int (.ofNat (nat_lit 21)) (nat_lit 0)), (.int (.ofNat (nat_lit 0)) (nat_lit 0)), (.ref (nat_lit 104)), (.int (.ofNat (nat_lit 25)) (nat_lit 0)), (.int (.ofNat (nat_lit 0)) (nat_lit 0)), (.ref (nat_lit 123)), (.int (.ofNat (nat_lit 29)) (nat_lit 0)), (.int (.ofNat (nat_lit 0)) (nat_lit 0)), (.ref (nat_lit 142)), (.int (.ofNat (nat_lit 33)) (nat_lit 0)), (.int (.ofNat (nat_lit 0)) (nat_lit 0)), (.ref (nat_lit 161)), (.int (.ofNat (nat_lit 37)) (nat_lit 0)), (.int (.ofNat (nat_lit 0)) (nat_lit 0)), (.ref (nat_lit 180)), (.int (.ofNat (nat_lit 41)) (nat_lit 0)), (.int (.ofNat (nat_lit 0)) (nat_lit 0)), (.ref (nat_lit 199)), (.int (.ofNat (nat_lit 45)) (nat_lit 0)), (.int (.ofNat (nat_lit 0)) (nat_lit 0)), (.ref (nat_lit 218)), (.int (.ofNat (nat_lit 49)) (nat_lit 0)), (.int (.ofNat (nat_lit 0)) (nat_lit 0)), (.ref (nat_lit 237)), (.int (.ofNat (nat_lit 53)) (nat_lit 0)), (.int (.ofNat (nat_lit 0)) (nat_lit 0)), (.ref (nat_lit 256)), (.int (.ofNat (nat_lit 57)) (nat_lit 0)), (.int (.ofNat (nat_lit 0)) (nat_lit 0)), (.ref (nat_lit 275)), (.int (.ofNat (nat_lit 61)) (nat_lit 0)), (.int (.ofNat (nat_lit 0)) (nat_lit 0)), (.ref (nat_lit 294)), (.int (.ofNat (nat_lit 71)) (nat_lit 0)), (.int (.ofNat (nat_lit 0)) (nat_lit 0)), (.ref (nat_lit 334)), (.int (.ofNat (nat_lit 73)) (nat_lit 0)), (.int (.ofNat (nat_lit 0)) (nat_lit 0)), (.ref (nat_lit 339)), (.int (.ofNat (nat_lit 85)) (nat_lit 0)), (.int (.ofNat (nat_lit 0)) (nat_lit 0)), (.ref (nat_lit 346)), (.int (.ofNat (nat_lit 89)) (nat_lit 0)), (.int (.ofNat (nat_lit 0)) (nat_lit 0)), (.ref (nat_lit 351)), (.int (.ofNat (nat_lit 92)) (nat_lit 0)), (.int (.ofNat (nat_lit 0)) (nat_lit 0)), (.ref (nat_lit 356)), (.int (.ofNat (nat_lit 96)) (nat_lit 0)), (.int (.ofNat (nat_lit 0)) (nat_lit 0)), (.ref (nat_lit 363)), (.int (.ofNat (nat_lit 100)) (nat_lit 0)), (.int (.ofNat (nat_lit 0)) (nat_lit 0)), (.ref (nat_lit 370)), (.int (.ofNat (nat_lit 105)) (nat_lit 0)), (.int (.ofNat (nat_lit 0)) (nat_lit 0)), (.ref (nat_lit 375)), (.int (.ofNat (nat_lit 110)) (nat_lit 0)), (.int (.ofNat (nat_lit 0)) (nat_lit 0)), (.ref (nat_lit 382)), (.int (.ofNat (nat_lit 115)) (nat_lit 0)), (.int (.ofNat (nat_lit 0)) (nat_lit 0)), (.ref (nat_lit 389))]), #[]⟩
noncomputable def o328_17 (P : Params) : Obj := ⟨(.type "dict"), none, (.dict #[⟨(PyData.keyHash P x9), (.str x9 (nat_lit 616)), (.int (.ofNat (nat_lit 1)) (nat_lit 617))⟩, ⟨(PyData.keyHash P x214), (.str x214 (nat_lit 618)), (.int (.ofNat (nat_lit 1)) (nat_lit 619))⟩, ⟨(PyData.keyHash P x217), (.str x217 (nat_lit 620)), (.int (.ofNat (nat_lit 1)) (nat_lit 621))⟩, ⟨(PyData.keyHash P x220), (.str x220 (nat_lit 622)), (.int (.ofNat (nat_lit 0)) (nat_lit 623))⟩, ⟨(PyData.keyHash P x222), (.str x222 (nat_lit 624)), (.int (.ofNat (nat_lit 0)) (nat_lit 625))⟩] (nat_lit 5)), #[]⟩
noncomputable def o329_17 (P : Params) : Obj := ⟨(.type "tuple"), none, (.seq #[] (nat_lit 0)), #[]⟩
noncomputable def o330_17 (P : Params) : Obj := ⟨.none, none, (.fields #[]), #[]⟩
noncomputable def o331_17 (P : Params) : Obj := ⟨(.type "tuple"), none, (.seq #[(.str x232 (nat_lit 635))] (nat_lit 0)), #[]⟩
noncomputable def o332_17 (P : Params) : Obj := ⟨(.type "tuple"), none, (.seq #[] (nat_lit 0)), #[]⟩
noncomputable def o333_17 (P : Params) : Obj := ⟨.none, none, (.func ⟨x231, x231, L2.defArgs (ht 23), .stmts (L2.defBody (ht 23)), L2.defScope (ht 23), (nat_lit 0), [], .none, .none, .none, .none, none, .none, .none, (nat_lit 0)⟩), #[]⟩
noncomputable def o334_17 (P : Params) : Obj := ⟨(.type "code"), none, (.fields #[(.str x231 (nat_lit 632)), (.str x231 (nat_lit 633)), (.str x164 (nat_lit 634)), (.int (.ofNat (nat_lit 71)) (nat_lit 0)), (.int (.ofNat (nat_lit 1)) (nat_lit 0)), (.int (.ofNat (nat_lit 0)) (nat_lit 0)), (.int (.ofNat (nat_lit 0)) (nat_lit 0)), (.int (.ofNat (nat_lit 3)) (nat_lit 0)), (.ref (nat_lit 329)), (.bool true), (.int (.ofNat (nat_lit 181)) (nat_lit 0)), (.ref (nat_lit 330)), .none, (.ref (nat_lit 331)), (.ref (nat_lit 332)), (.ref (nat_lit 333)), (.int (.ofNat (nat_lit 636)) (nat_lit 0)), (.int (.ofNat (nat_lit 71)) (nat_lit 0)), (.str x164 (nat_lit 637))]), #[]⟩
noncomputable def o335_17 (P : Params) : Obj := ⟨(.type "function"), none, (.func ⟨x231, x231, L2.defArgs (ht 23), .stmts (L2.defBody (ht 23)), L2.defScope (ht 23), (nat_lit 3), [], .none, .none, .none, (.str x207 (nat_lit 543)), none, (.ref (nat_lit 334)), .none, (nat_lit 0)⟩), #[]⟩
noncomputable def o336_17 (P : Params) : Obj := ⟨(.type "tuple"), none, (.seq #[] (nat_lit 0)), #[]⟩
noncomputable def o337_17 (P : Params) : Obj := ⟨.none, none, (.fields #[]), #[]⟩
noncomputable def o338_17 (P : Params) : Obj := ⟨.none, none, (.func ⟨x233, x233, L2.defArgs (ht 24), .stmts (L2.defBody (ht 24)), L2.defScope (ht 24), (nat_lit 0), [], .none, .none, .none, .none, none, .none, .none, (nat_lit 0)⟩), #[]⟩
noncomputable def o339_17 (P : Params) : Obj := ⟨(.type "code"), none, (.fields #[(.str x233 (nat_lit 639)), (.str x233 (nat_lit 640)), (.str x164 (nat_lit 641)), (.int (.ofNat (nat_lit 73)) (nat_lit 0)), (.int (.ofNat (nat_lit 1)) (nat_lit 0)), (.int (.ofNat (nat_lit 0)) (nat_lit 0)), (.int (.ofNat (nat_lit 0)) (nat_lit 0)), (.int (.ofNat (nat_lit 3)) (nat_lit 0)), (.ref (nat_lit 336)), (.bool true), (.int (.ofNat (nat_lit 181)) (nat_lit 0)), (.ref (nat_lit 337)), .none, .none, .none, (.ref (nat_lit 338)), (.int (.ofNat (nat_lit 642)) (nat_lit 0)), (.int (.ofNat (nat_lit 73)) (nat_lit 0)), (.str x164 (nat_lit 643))]), #[]⟩
noncomputable def o340_17 (P : Params) : Obj := ⟨(.type "function"), none, (.func ⟨x233, x233, L2.defArgs (ht 24), .stmts (L2.defBody (ht 24)), L2.defScope (ht 24), (nat_lit 3), [], .none, .none, .none, (.str x207 (nat_lit 543)), none, (.ref (nat_lit 339)), .none, (nat_lit 0)⟩), #[]⟩
noncomputable def o341_17 (P : Params) : Obj := ⟨(.type "tuple"), none, (.seq #[] (nat_lit 0)), #[]⟩
noncomputable def o342_17 (P : Params) : Obj := ⟨.none, none, (.fields #[]), #[]⟩
noncomputable def o343_17 (P : Params) : Obj := ⟨(.type "tuple"), none, (.seq #[(.str x235 (nat_lit 648))] (nat_lit 0)), #[]⟩
noncomputable def o344_17 (P : Params) : Obj := ⟨(.type "tuple"), none, (.seq #[] (nat_lit 0)), #[]⟩
noncomputable def o345_17 (P : Params) : Obj := ⟨.none, none, (.func ⟨x234, x234, L2.defArgs (ht 25), .stmts (L2.defBody (ht 25)), L2.defScope (ht 25), (nat_lit 0), [], .none, .none, .none, .none, none, .none, .none, (nat_lit 0)⟩), #[]⟩
noncomputable def o346_17 (P : Params) : Obj := ⟨(.type "code"), none, (.fields #[(.str x234 (nat_lit 645)), (.str x234 (nat_lit 646)), (.str x164 (nat_lit 647)), (.int (.ofNat (nat_lit 85)) (nat_lit 0)), (.int (.ofNat (nat_lit 1)) (nat_lit 0)), (.int (.ofNat (nat_lit 0)) (nat_lit 0)), (.int (.ofNat (nat_lit 0)) (nat_lit 0)), (.int (.ofNat (nat_lit 3)) (nat_lit 0)), (.ref (nat_lit 341)), (.bool true), (.int (.ofNat (nat_lit 181)) (nat_lit 0)), (.ref (nat_lit 342)), .none, (.ref (nat_lit 343)), (.ref (nat_lit 344)), (.ref (nat_lit 345)), (.int (.ofNat (nat_lit 649)) (nat_lit 0)), (.int (.ofNat (nat_lit 85)) (nat_lit 0)), (.str x164 (nat_lit 650))]), #[]⟩
noncomputable def o347_17 (P : Params) : Obj := ⟨(.type "function"), none, (.func ⟨x234, x234, L2.defArgs (ht 25), .stmts (L2.defBody (ht 25)), L2.defScope (ht 25), (nat_lit 3), [], .none, .none, .none, (.str x207 (nat_lit 543)), none, (.ref (nat_lit 346)), .none, (nat_lit 0)⟩), #[]⟩
noncomputable def o348_17 (P : Params) : Obj := ⟨(.type "tuple"), none, (.seq #[] (nat_lit 0)), #[]⟩
noncomputable def o349_17 (P : Params) : Obj := ⟨.none, none, (.fields #[]), #[]⟩
noncomputable def o350_17 (P : Params) : Obj := ⟨.none, none, (.func ⟨x236, x236, L2.defArgs (ht 26), .stmts (L2.defBody (ht 26)), L2.defScope (ht 26), (nat_lit 0), [], .none, .none, .none, .none, none, .none, .none, (nat_lit 0)⟩), #[]⟩
noncomputable def o351_17 (P : Params) : Obj := ⟨(.type "code"), none, (.fields #[(.str x236 (nat_lit 652)), (.str x236 (nat_lit 653)), (.str x164 (nat_lit 654)), (.int (.ofNat (nat_lit 89)) (nat_lit 0)), (.int (.ofNat (nat_lit 1)) (nat_lit 0)), (.int (.ofNat (nat_lit 0)) (nat_lit 0)), (.int (.ofNat (nat_lit 0)) (nat_lit 0)), (.int (.ofNat (nat_lit 3)) (nat_lit 0)), (.ref (nat_lit 348)), (.bool true), (.int (.ofNat (nat_lit 181)) (nat_lit 0)), (.ref (nat_lit 349)), .none, .none, .none, (.ref (nat_lit 350)), (.int (.ofNat (nat_lit 655)) (nat_lit 0)), (.int (.ofNat (nat_lit 89)) (nat_lit 0)), (.str x164 (nat_lit 656))]), #[]⟩
noncomputable def o352_17 (P : Params) : Obj := ⟨(.type "function"), none, (.func ⟨x236, x236, L2.defArgs (ht 26), .stmts (L2.defBody (ht 26)), L2.defScope (ht 26), (nat_lit 3), [], .none, .none, .none, (.str x207 (nat_lit 543)), none, (.ref (nat_lit 351)), .none, (nat_lit 0)⟩), #[]⟩
noncomputable def o353_17 (P : Params) : Obj := ⟨(.type "tuple"), none, (.seq #[] (nat_lit 0)), #[]⟩
noncomputable def o354_17 (P : Params) : Obj := ⟨.none, none, (.fields #[]), #[]⟩
noncomputable def o355_17 (P : Params) : Obj := ⟨.none, none, (.func ⟨x237, x237, L2.defArgs (ht 27), .stmts (L2.defBody (ht 27)), L2.defScope (ht 27), (nat_lit 0), [], .none, .none, .none, .none, none, .none, .none, (nat_lit 0)⟩), #[]⟩
noncomputable def o356_17 (P : Params) : Obj := ⟨(.type "code"), none, (.fields #[(.str x237 (nat_lit 658)), (.str x237 (nat_lit 659)), (.str x164 (nat_lit 660)), (.int (.ofNat (nat_lit 92)) (nat_lit 0)), (.int (.ofNat (nat_lit 1)) (nat_lit 0)), (.int (.ofNat (nat_lit 0)) (nat_lit 0)), (.int (.ofNat (nat_lit 0)) (nat_lit 0)), (.int (.ofNat (nat_lit 3)) (nat_lit 0)), (.ref (nat_lit 353)), (.bool true), (.int (.ofNat (nat_lit 181)) (nat_lit 0)), (.ref (nat_lit 354)), .none, .none, .none, (.ref (nat_lit 355)), (.int (.ofNat (nat_lit 661)) (nat_lit 0)), (.int (.ofNat (nat_lit 92)) (nat_lit 0)), (.str x164 (nat_lit 662))]), #[]⟩
noncomputable def o357_17 (P : Params) : Obj := ⟨(.type "function"), none, (.func ⟨x237, x237, L2.defArgs (ht 27), .stmts (L2.defBody (ht 27)), L2.defScope (ht 27), (nat_lit 3), [], .none, .none, .none, (.str x207 (nat_lit 543)), none, (.ref (nat_lit 356)), .none, (nat_lit 0)⟩), #[]⟩
noncomputable def o358_17 (P : Params) : Obj := ⟨(.type "tuple"), none, (.seq #[] (nat_lit 0)), #[]⟩
noncomputable def o359_17 (P : Params) : Obj := ⟨.none, none, (.fields #[]), #[]⟩
noncomputable def o360_17 (P : Params) : Obj := ⟨(.type "tuple"), none, (.seq #[(.str x235 (nat_lit 667))] (nat_lit 0)), #[]⟩
noncomputable def o361_17 (P : Params) : Obj := ⟨(.type "tuple"), none, (.seq #[] (nat_lit 0)), #[]⟩
noncomputable def o362_17 (P : Params) : Obj := ⟨.none, none, (.func ⟨x238, x238, L2.defArgs (ht 28), .stmts (L2.defBody (ht 28)), L2.defScope (ht 28), (nat_lit 0), [], .none, .none, .none, .none, none, .none, .none, (nat_lit 0)⟩), #[]⟩
noncomputable def o363_17 (P : Params) : Obj := ⟨(.type "code"), none, (.fields #[(.str x238 (nat_lit 664)), (.str x238 (nat_lit 665)), (.str x164 (nat_lit 666)), (.int (.ofNat (nat_lit 96)) (nat_lit 0)), (.int (.ofNat (nat_lit 1)) (nat_lit 0)), (.int (.ofNat (nat_lit 0)) (nat_lit 0)), (.int (.ofNat (nat_lit 0)) (nat_lit 0)), (.int (.ofNat (nat_lit 3)) (nat_lit 0)), (.ref (nat_lit 358)), (.bool true), (.int (.ofNat (nat_lit 181)) (nat_lit 0)), (.ref (nat_lit 359)), .none, (.ref (nat_lit 360)), (.ref (nat_lit 361)), (.ref (nat_lit 362)), (.int (.ofNat (nat_lit 668)) (nat_lit 0)), (.int (.ofNat (nat_lit 96)) (nat_lit 0)), (.str x164 (nat_lit 669))]), #[]⟩
noncomputable def o364_17 (P : Params) : Obj := ⟨(.type "function"), none, (.func ⟨x238, x238, L2.defArgs (ht 28), .stmts (L2.defBody (ht 28)), L2.defScope (ht 28), (nat_lit 3), [], .none, .none, .none, (.str x207 (nat_lit 543)), none, (.ref (nat_lit 363)), .none, (nat_lit 0)⟩), #[]⟩
noncomputable def o365_17 (P : Params) : Obj := ⟨(.type "tuple"), none, (.seq #[] (nat_lit 0)), #[]⟩
noncomputable def o366_17 (P : Params) : Obj := ⟨.none, none, (.fields #[]), #[]⟩
noncomputable def o367_17 (P : Params) : Obj := ⟨(.type "tuple"), none, (.seq #[(.str x235 (nat_lit 674)), (.str x240 (nat_lit 675))] (nat_lit 0)), #[]⟩
noncomputable def o368_17 (P : Params) : Obj := ⟨(.type "tuple"), none, (.seq #[] (nat_lit 0)), #[]⟩
noncomputable def o369_17 (P : Params) : Obj := ⟨.none, none, (.func ⟨x239, x239, L2.defArgs (ht 29), .stmts (L2.defBody (ht 29)), L2.defScope (ht 29), (nat_lit 0), [], .none, .none, .none, .none, none, .none, .none, (nat_lit 0)⟩), #[]⟩
noncomputable def o370_17 (P : Params) : Obj := ⟨(.type "code"), none, (.fields #[(.str x239 (nat_lit 671)), (.str x239 (nat_lit 672)), (.str x164 (nat_lit 673)), (.int (.ofNat (nat_lit 100)) (nat_lit 0)), (.int (.ofNat (nat_lit 2)) (nat_lit 0)), (.int (.ofNat (nat_lit 0)) (nat_lit 0)), (.int (.ofNat (nat_lit 0)) (nat_lit 0)), (.int (.ofNat (nat_lit 3)) (nat_lit 0)), (.ref (nat_lit 365)), (.bool true), (.int (.ofNat (nat_lit 181)) (nat_lit 0)), (.ref (nat_lit 366)), .none, (.ref (nat_lit 367)), (.ref (nat_lit 368)), (.ref (nat_lit 369)), (.int (.ofNat (nat_lit 676)) (nat_lit 0)), (.int (.ofNat (nat_lit 100)) (nat_lit 0)), (.str x164 (nat_lit 677))]), #[]⟩
noncomputable def o371_17 (P : Params) : Obj := ⟨(.type "function"), none, (.func ⟨x239, x239, L2.defArgs (ht 29), .stmts (L2.defBody (ht 29)), L2.defScope (ht 29), (nat_lit 3), [], .none, .none, .none, (.str x207 (nat_lit 543)), none, (.ref (nat_lit 370)), .none, (nat_lit 0)⟩), #[]⟩
noncomputable def o372_17 (P : Params) : Obj := ⟨(.type "tuple"), none, (.seq #[] (nat_lit 0)), #[]⟩
noncomputable def o373_17 (P : Params) : Obj := ⟨.none, none, (.fields #[]), #[]⟩
noncomputable def o374_17 (P : Params) : Obj := ⟨.none, none, (.func ⟨x242, x242, L2.defArgs (ht 31), .stmts (L2.defBody (ht 31)), L2.defScope (ht 31), (nat_lit 0), [], .none, .none, .none, .none, none, .none, .none, (nat_lit 0)⟩), #[]⟩
noncomputable def o375_17 (P : Params) : Obj := ⟨(.type "code"), none, (.fields #[(.str x242 (nat_lit 681)), (.str x242 (nat_lit 682)), (.str x164 (nat_lit 683)), (.int (.ofNat (nat_lit 105)) (nat_lit 0)), (.int (.ofNat (nat_lit 3)) (nat_lit 0)), (.int (.ofNat (nat_lit 0)) (nat_lit 0)), (.int (.ofNat (nat_lit 0)) (nat_lit 0)), (.int (.ofNat (nat_lit 3)) (nat_lit 0)), (.ref (nat_lit 372)), (.bool true), (.int (.ofNat (nat_lit 181)) (nat_lit 0)), (.ref (nat_lit 373)), .none, .none, .none, (.ref (nat_lit 374)), (.int (.ofNat (nat_lit 684)) (nat_lit 0)), (.int (.ofNat (nat_lit 105)) (nat_lit 0)), (.str x164 (nat_lit 685))]), #[]⟩
noncomputable def o376_17 (P : Params) : Obj := ⟨(.type "function"), none, (.func ⟨x242, x242, L2.defArgs (ht 31), .stmts (L2.defBody (ht 31)), L2.defScope (ht 31), (nat_lit 3), [], .none, .none, .none, (.str x241 (nat_lit 679)), none, (.ref (nat_lit 375)), .none, (nat_lit 0)⟩), #[]⟩
noncomputable def o377_17 (P : Params) : Obj := ⟨(.type "tuple"), none, (.seq #[] (nat_lit 0)), #[]⟩
noncomputable def o378_17 (P : Params) : Obj := ⟨.none, none, (.fields #[]), #[]⟩
noncomputable def o379_17 (P : Params) : Obj := ⟨(.type "tuple"), none, (.seq #[(.str x235 (nat_lit 690)), (.str x244 (nat_lit 691)), (.str x245 (nat_lit 692)), (.str x246 (nat_lit 693))] (nat_lit 0)), #[]⟩
noncomputable def o380_17 (P : Params) : Obj := ⟨(.type "tuple"), none, (.seq #[(.str x244 (nat_lit 694)), (.str x245 (nat_lit 695))] (nat_lit 0)), #[]⟩
noncomputable def o381_17 (P : Params) : Obj := ⟨.none, none, (.func ⟨x243, x243, L2.defArgs (ht 32), .stmts (L2.defBody (ht 32)), L2.defScope (ht 32), (nat_lit 0), [], .none, .none, .none, .none, none, .none, .none, (nat_lit 0)⟩), #[]⟩
noncomputable def o382_17 (P : Params) : Obj := ⟨(.type "code"), none, (.fields #[(.str x243 (nat_lit 687)), (.str x243 (nat_lit 688)), (.str x164 (nat_lit 689)), (.int (.ofNat (nat_lit 110)) (nat_lit 0)), (.int (.ofNat (nat_lit 3)) (nat_lit 0)), (.int (.ofNat (nat_lit 0)) (nat_lit 0)), (.int (.ofNat (nat_lit 0)) (nat_lit 0)), (.int (.ofNat (nat_lit 3)) (nat_lit 0)), (.ref (nat_lit 377)), (.bool true), (.int (.ofNat (nat_lit 181)) (nat_lit 0)), (.ref (nat_lit 378)), .none, (.ref (nat_lit 379)), (.ref (nat_lit 380)), (.ref (nat_lit 381)), (.int (.ofNat (nat_lit 696)) (nat_lit 0)), (.int (.ofNat (nat_lit 110)) (nat_lit 0)), (.str x164 (nat_lit 697))]), #[]⟩
noncomputable def o383_17 (P : Params) : Obj := ⟨(.type "function"), none, (.func ⟨x243, x243, L2.defArgs (ht 32), .stmts (L2.defBody (ht 32)), L2.defScope (ht 32), (nat_lit 3), [], .none, .none, .none, (.str x241 (nat_lit 679)), none, (.ref (nat_lit 382)), .none, (nat_lit 0)⟩), #[]⟩
noncomputable def o384_17 (P : Params) : Obj := ⟨(.type "tuple"), none, (.seq #[] (nat_lit 0)), #[]⟩
noncomputable def o385_17 (P : Params) : Obj := ⟨.none, none, (.fields #[]), #[]⟩
noncomputable def o386_17 (P : Params) : Obj := ⟨(.type "tuple"), none, (.seq #[(.str x235 (nat_lit 702)), (.str x244 (nat_lit 703)), (.str x245 (nat_lit 704))] (nat_lit 0)), #[]⟩
noncomputable def o387_17 (P : Params) : Obj := ⟨(.type "tuple"), none, (.seq #[] (nat_lit 0)), #[]⟩
noncomputable def o388_17 (P : Params) : Obj := ⟨.none, none, (.func ⟨x247, x247, L2.defArgs (ht 33), .stmts (L2.defBody (ht 33)), L2.defScope (ht 33), (nat_lit 0), [], .none, .none, .none, .none, none, .none, .none, (nat_lit 0)⟩), #[]⟩
noncomputable def o389_17 (P : Params) : Obj := ⟨(.type "code"), none, (.fields #[(.str x247 (nat_lit 699)), (.str x247 (nat_lit 700)), (.str x164 (nat_lit 701)), (.int (.ofNat (nat_lit 115)) (nat_lit 0)), (.int (.ofNat (nat_lit 3)) (nat_lit 0)), (.int (.ofNat (nat_lit 0)) (nat_lit 0)), (.int (.ofNat (nat_lit 0)) (nat_lit 0)), (.int (.ofNat (nat_lit 3)) (nat_lit 0)), (.ref (nat_lit 384)), (.bool true), (.int (.ofNat (nat_lit 181)) (nat_lit 0)), (.ref (nat_lit 385)), .none, (.ref (nat_lit 386)), (.ref (nat_lit 387)), (.ref (nat_lit 388)), (.int (.ofNat (nat_lit 705)) (nat_lit 0)), (.int (.ofNat (nat_lit 115)) (nat_lit 0)), (.str x164 (nat_lit 706))]), #[]⟩
noncomputable def o390_17 (P : Params) : Obj := ⟨(.type "function"), none, (.func ⟨x247, x247, L2.defArgs (ht 33), .stmts (L2.defBody (ht 33)), L2.defScope (ht 33), (nat_lit 3), [], .none, .none, .none, (.str x241 (nat_lit 679)), none, (.ref (nat_lit 389)), .none, (nat_lit 0)⟩), #[]⟩
noncomputable def g17 : List Stmt := [ht 22, ht 23, ht 24, ht 25, ht 26, ht 27, ht 28, ht 29, ht 30, ht 31, ht 32, ht 33, ht 34]
noncomputable def T17 (P : Params) : BT := ((((((((((((((((((((((((((((((((((((((((((((((((((((((((((((((((((T16 P).ins (nat_lit 3) (o3_17 P)).ins (nat_lit 12) (o12_17 P)).ins (nat_lit 328) (o328_17 P)).ins (nat_lit 329) (o329_17 P)).ins (nat_lit 330) (o330_17 P)).ins (nat_lit 331) (o331_17 P)).ins (nat_lit 332) (o332_17 P)).ins (nat_lit 333) (o333_17 P)).ins (nat_lit 334) (o334_17 P)).ins (nat_lit 335) (o335_17 P)).ins (nat_lit 336) (o336_17 P)).ins (nat_lit 337) (o337_17 P)).ins (nat_lit 338) (o338_17 P)).ins (nat_lit 339) (o339_17 P)).ins (nat_lit 340) (o340_17 P)).ins (nat_lit 341) (o341_17 P)).ins (nat_lit 342) (o342_17 P)).ins (nat_lit 343) (o343_17 P)).ins (nat_lit 344) (o344_17 P)).ins (nat_lit 345) (o345_17 P)).ins (nat_lit 346) (o346_17 P)).ins (nat_lit 347) (o347_17 P)).ins (nat_lit 348) (o348_17 P)).ins (nat_lit 349) (o349_17 P)).ins (nat_lit 350) (o350_17 P)).ins (nat_lit 351) (o351_17 P)).ins (nat_lit 352) (o352_17 P)).ins (nat_lit 353) (o353_17 P)).ins (nat_lit 354) (o354_17 P)).ins (nat_lit 355) (o355_17 P)).ins (nat_lit 356) (o356_17 P)).ins (nat_lit 357) (o357_17 P)).ins (nat_lit 358) (o358_17 P)).ins (nat_lit 359) (o359_17 P)).ins (nat_lit 360) (o360_17 P)).ins (nat_lit 361) (o361_17 P)).ins (nat_lit 362) (o362_17 P)).ins (nat_lit 363) (o363_17 P)).ins (nat_lit 364) (o364_17 P)).ins (nat_lit 365) (o365_17 P)).ins (nat_lit 366) (o366_17 P)).ins (nat_lit 367) (o367_17 P)).ins (nat_lit 368) (o368_17 P)).ins (nat_lit 369) (o369_17 P)).ins (nat_lit 370) (o370_17 P)).ins (nat_lit 371) (o371_17 P)).ins (nat_lit 372) (o372_17 P)).ins (nat_lit 373) (o373_17 P)).ins (nat_lit 374) (o374_17 P)).ins (nat_lit 375) (o375_17 P)).ins (nat_lit 376) (o376_17 P)).ins (nat_lit 377) (o377_17 P)).ins (nat_lit 378) (o378_17 P)).ins (nat_lit 379) (o379_17 P)).ins (nat_lit 380) (o380_17 P)).ins (nat_lit 381) (o381_17 P)).ins (nat_lit 382) (o382_17 P)).ins (nat_lit 383) (o383_17 P)).ins (nat_lit 384) (o384_17 P)).ins (nat_lit 385) (o385_17 P)).ins (nat_lit 386) (o386_17 P)).ins (nat_lit 387) (o387_17 P)).ins (nat_lit 388) (o388_17 P)).ins (nat_lit 389) (o389_17 P)).ins (nat_lit 390) (o390_17 P))
noncomputable def lf17 : Life := ⟨[], [], [], (nat_lit 0), [], [], false, #[], [], (nat_lit 0), false, false, false, (.ofNat (nat_lit 0)), [(.ofNat (nat_lit 2000)), (.ofNat (nat_lit 10)), (.ofNat (nat_lit 10))], false, (nat_lit 0), true, [], [], (nat_lit 0), false⟩
noncomputable abbrev S17 (w : World) (os : OsState) : SharedT := ⟨T17 w.params, nat_lit 391, lf17, Array.mk [], ⟨(nat_lit 0), (nat_lit 0), (nat_lit 0), (nat_lit 0)⟩, nat_lit 710, os⟩
noncomputable def q17f (w : World) : (OsState → Option (Flow × SharedT × Code × Pos)) × (OsState → Option (Flow × SharedT × Code × Pos)) := (fun os => segRunT treeTable pw (w.withFollow "special-get-raises" false) (nat_lit 11) (some (.ref (nat_lit 6))) (nat_lit 1) (nat_lit 390) (S16 (w.withFollow "special-get-raises" false) os) (piecesOf g17 hE hC ⟨(nat_lit 69), (nat_lit 0), (nat_lit 69), (nat_lit 8)⟩ hB), fun os => some (Flow.next, S17 (w.withFollow "special-get-raises" false) os, hC, ⟨(nat_lit 117), (nat_lit 0), (nat_lit 117), (nat_lit 8)⟩))
theorem q17f_eq : (fun w : World => HD.seg pw (nat_lit 11) (some (.ref (nat_lit 6))) (nat_lit 390) S16 S17 g17 hE hC ⟨(nat_lit 69), (nat_lit 0), (nat_lit 69), (nat_lit 8)⟩ ⟨(nat_lit 117), (nat_lit 0), (nat_lit 117), (nat_lit 8)⟩ hB (w.withFollow "special-get-raises" false)) = q17f := by kernel_rfl
name_quick YK4017f for q17f by q17f_eq
theorem i17f (w : World) : (Fast.YK4017f w).1 = (Fast.YK4017f w).2 := by kernel_rfl
noncomputable def q17t (w : World) : (OsState → Option (Flow × SharedT × Code × Pos)) × (OsState → Option (Flow × SharedT × Code × Pos)) := (fun os => segRunT treeTable pw (w.withFollow "special-get-raises" true) (nat_lit 11) (some (.ref (nat_lit 6))) (nat_lit 1) (nat_lit 390) (S16 (w.withFollow "special-get-raises" true) os) (piecesOf g17 hE hC ⟨(nat_lit 69), (nat_lit 0), (nat_lit 69), (nat_lit 8)⟩ hB), fun os => some (Flow.next, S17 (w.withFollow "special-get-raises" true) os, hC, ⟨(nat_lit 117), (nat_lit 0), (nat_lit 117), (nat_lit 8)⟩))
theorem q17t_eq : (fun w : World => HD.seg pw (nat_lit 11) (some (.ref (nat_lit 6))) (nat_lit 390) S16 S17 g17 hE hC ⟨(nat_lit 69), (nat_lit 0), (nat_lit 69), (nat_lit 8)⟩ ⟨(nat_lit 117), (nat_lit 0), (nat_lit 117), (nat_lit 8)⟩ hB (w.withFollow "special-get-raises" true)) = q17t := by kernel_rfl
name_quick YK4017t for q17t by q17t_eq
theorem i17t (w : World) : (Fast.YK4017t w).1 = (Fast.YK4017t w).2 := by kernel_rfl
theorem h17 : HD.Ok (HD.seg pw (nat_lit 11) (some (.ref (nat_lit 6))) (nat_lit 390) S16 S17 g17 hE hC ⟨(nat_lit 69), (nat_lit 0), (nat_lit 69), (nat_lit 8)⟩ ⟨(nat_lit 117), (nat_lit 0), (nat_lit 117), (nat_lit 8)⟩ hB) := HD.by2 "special-get-raises" Fast.YK4017f_eq Fast.YK4017t_eq i17f i17t
noncomputable def o3_18 (P : Params) : Obj := ⟨(.type "dict"), none, (.dict #[⟨(PyData.keyHash P x0), (.str x0 (nat_lit 165)), (.str x252 (nat_lit 718))⟩, ⟨(PyData.keyHash P x2), (.str x2 (nat_lit 166)), .none⟩, ⟨(PyData.keyHash P x3), (.str x3 (nat_lit 167)), .none⟩, ⟨(PyData.keyHash P x4), (.str x4 (nat_lit 168)), (.builtin "__main__.__loader__#opaque")⟩, ⟨(PyData.keyHash P x5), (.str x5 (nat_lit 169)), .none⟩, ⟨(PyData.keyHash P x161), (.str x161 (nat_lit 170)), (.ref (nat_lit 6))⟩, ⟨(PyData.keyHash P x162), (.str x162 (nat_lit 171)), (.ref (nat_lit 4))⟩, ⟨(PyData.keyHash P x163), (.str x163 (nat_lit 173)), (.str x164 (nat_lit 172))⟩, ⟨(PyData.keyHash P x165), (.str x165 (nat_lit 174)), .none⟩, ⟨(PyData.keyHash P x167), (.str x167 (nat_lit 193)), (.ref (nat_lit 21))⟩, ⟨(PyData.keyHash P x170), (.str x170 (nat_lit 220)), (.ref (nat_lit 38))⟩, ⟨(PyData.keyHash P x179), (.str x179 (nat_lit 243)), (.ref (nat_lit 58))⟩, ⟨(PyData.keyHash P x181), (.str x181 (nat_lit 266)), (.ref (nat_lit 77))⟩, ⟨(PyData.keyHash P x183), (.str x183 (nat_lit 289)), (.ref (nat_lit 96))⟩, ⟨(PyData.keyHash P x185), (.str x185 (nat_lit 312)), (.ref (nat_lit 115))⟩, ⟨(PyData.keyHash P x187), (.str x187 (nat_lit 335)), (.ref (nat_lit 134))⟩, ⟨(PyData.keyHash P x189), (.str x189 (nat_lit 358)), (.ref (nat_lit 153))⟩, ⟨(PyData.keyHash P x191), (.str x191 (nat_lit 381)), (.ref (nat_lit 172))⟩, ⟨(PyData.keyHash P x193), (.str x193 (nat_lit 404)), (.ref (nat_lit 191))⟩, ⟨(PyData.keyHash P x195), (.str x195 (nat_lit 427)), (.ref (nat_lit 210))⟩, ⟨(PyData.keyHash P x197), (.str x197 (nat_lit 450)), (.ref (nat_lit 229))⟩, ⟨(PyData.keyHash P x199), (.str x199 (nat_lit 473)), (.ref (nat_lit 248))⟩, ⟨(PyData.keyHash P x201), (.str x201 (nat_lit 496)), (.ref (nat_lit 267))⟩, ⟨(PyData.keyHash P x203), (.str x203 (nat_lit 519)), (.ref (nat_lit 286))⟩, ⟨(PyData.keyHash P x205), (.str x205 (nat_lit 542)), (.ref (nat_lit 305))⟩, ⟨(PyData.keyHash P x208), (.str x208 (nat_lit 546)), (.int (.ofNat (nat_lit 600)) (nat_lit 545))⟩, ⟨(PyData.keyHash P x209), (.str x209 (nat_lit 548)), (.int (.ofNat (nat_lit 40)) (nat_lit 547))⟩, ⟨(PyData.keyHash P x210), (.str x210 (nat_lit 550)), (.int (.ofNat (nat_lit 99)) (nat_lit 549))⟩, ⟨(PyData.keyHash P x211), (.str x211 (nat_lit 615)), (.ref (nat_lit 308))⟩, ⟨(PyData.keyHash P x230), (.str x230 (nat_lit 631)), (.ref (nat_lit 328))⟩, ⟨(PyData.keyHash P x231), (.str x231 (nat_lit 638)), (.ref (nat_lit 335))⟩, ⟨(PyData.keyHash P x233), (.str x233 (nat_lit 644)), (.ref (nat_lit 340))⟩, ⟨(PyData.keyHash P x234), (.str x234 (nat_lit 651)), (.ref (nat_lit 347))⟩, ⟨(PyData.keyHash P x236), (.str x236 (nat_lit 657)), (.ref (nat_lit 352))⟩, ⟨(PyData.keyHash P x237), (.str x237 (nat_lit 663)), (.ref (nat_lit 357))⟩, ⟨(PyData.keyHash P x238), (.str x238 (nat_lit 670)), (.ref (nat_lit 364))⟩, ⟨(PyData.keyHash P x239), (.str x239 (nat_lit 678)), (.ref (nat_lit 371))⟩, ⟨(PyData.keyHash P x242), (.str x242 (nat_lit 686)), (.ref (nat_lit 376))⟩, ⟨(PyData.keyHash P x243), (.str x243 (nat_lit 698)), (.ref (nat_lit 383))⟩, ⟨(PyData.keyHash P x247), (.str x247 (nat_lit 707)), (.ref (nat_lit 390))⟩, ⟨(PyData.keyHash P x249), (.str x249 (nat_lit 717)), (.ref (nat_lit 397))⟩, ⟨(PyData.keyHash P x253), (.str x253 (nat_lit 727)), (.ref (nat_lit 404))⟩, ⟨(PyData.keyHash P x256), (.str x256 (nat_lit 738)), (.ref (nat_lit 411))⟩, ⟨(PyData.keyHash P x261), (.str x261 (nat_lit 746)), (.ref (nat_lit 418))⟩, ⟨(PyData.keyHash P x263), (.str x263 (nat_lit 754)), (.ref (nat_lit 425))⟩, ⟨(PyData.keyHash P x266), (.str x266 (nat_lit 763)), (.ref (nat_lit 432))⟩, ⟨(PyData.keyHash P x269), (.str x269 (nat_lit 771)), (.ref (nat_lit 439))⟩, ⟨(PyData.keyHash P x271), (.str x271 (nat_lit 786)), (.ref (nat_lit 446))⟩] (nat_lit 48)), #[]⟩
noncomputable def o12_18 (P : Params) : Obj := ⟨.none, none, (.fields #[(.int (.ofNat (nat_lit 1)) (nat_lit 0)), (.int (.ofNat (nat_lit 0)) (nat_lit 0)), (.ref (nat_lit 20)), (.int (.ofNat (nat_lit 5)) (nat_lit 0)), (.int (.ofNat (nat_lit 0)) (nat_lit 0)), (.ref (nat_lit 27)), (.int (.ofNat (nat_lit 9)) (nat_lit 0)), (.int (.ofNat (nat_lit 0)) (nat_lit 0)), (.ref (nat_lit 47)), (.int (.ofNat (nat_lit 13)) (nat_lit 0)), (.int (.ofNat (nat_lit 0)) (nat_lit 0)), (.ref (nat_lit 66)), (.int (.ofNat (nat_lit 17)) (nat_lit 0)), (.int (.ofNat (nat_lit 0)) (nat_lit 0)), (.ref (nat_lit 85)), (.int (.ofNat (nat_lit 21)) (nat_lit 0)), (.int (.ofNat (nat_lit 0)) (nat_lit 0)), (.ref (nat_lit 104)), (.int (.ofNat (nat_lit 25)) (nat_lit 0)), (.int (.ofNat (nat_lit 0)) (nat_lit 0)), (.ref (nat_lit 123)), (.int (.ofNat (nat_lit 29)) (nat_lit 0)), (.int (.ofNat (nat_lit 0)) (nat_lit 0)), (.ref (nat_lit 142)), (.int (.ofNat (nat_lit 33)) (nat_lit 0)), (.int (.ofNat (nat_lit 0)) (nat_lit 0)), (.ref (nat_lit 161)), (.int (.ofNat (nat_lit 37)) (nat_lit 0)), (.int (.ofNat (nat_lit 0)) (nat_lit 0)), (.ref (nat_lit 180)), (.int (.ofNat (nat_lit 41)) (nat_lit 0)), (.int (.ofNat (nat_lit 0)) (nat_lit 0)), (.ref (nat_lit 199)), (.int (.ofNat (nat_lit 45)) (nat_lit 0)), (.int (.ofNat (nat_lit 0)) (nat_lit 0)), (.ref (nat_lit 218)), (.int (.ofNat (nat_lit 49)) (nat_lit 0)), (.int (.ofNat (nat_lit 0)) (nat_lit 0)), (.ref (nat_lit 237)), (.int (.ofNat (nat_lit 53)) (nat_lit 0)), (.int (.ofNat (nat_lit 0)) (nat_lit 0)), (.ref (nat_lit 256)), (.int (.ofNat (nat_lit 57)) (nat_lit 0)), (.int (.ofNat (nat_lit 0)) (nat_lit 0)), (.ref (nat_lit 275)), (.int (.ofNat (nat_lit 61)) (nat_lit 0)), (.int (.ofNat (nat_lit 0)) (nat_lit 0)), (.ref (nat_lit 294)), (.int (.ofNat (nat_lit 71)) (nat_lit 0)), (.int (.ofNat (nat_lit 0)) (nat_lit 0)), (.ref (nat_lit 334)), (.int (.ofNat (nat_lit 73)) (nat_lit 0)), (.int (.ofNat (nat_lit 0)) (nat_lit 0)), (.ref (nat_lit 339)), (.int (.ofNat (nat_lit 85)) (nat_lit 0)), (.int (.ofNat (nat_lit 0)) (nat_lit 0)), (.ref (nat_lit 346)), (.int (.ofNat (nat_lit 89)) (nat_lit 0)), (.int (.ofNat (nat_lit 0)) (nat_lit 0)), (.ref (nat_lit 351)), (.int (.ofNat (nat_lit 92)) (nat_lit 0)), (.int (.ofNat (nat_lit 0)) (nat_lit 0)), (.ref (nat_lit 356)), (.int (.ofNat (nat_lit 96)) (nat_lit 0)), (.int (.ofNat (nat_lit 0)) (nat_lit 0)), (.ref (nat_lit 363)), (.int (.ofNat (nat_lit 100)) (nat_lit 0)), (.int (.ofNat (nat_lit 0)) (nat_lit 0)), (.ref (nat_lit 370)), (.int (.ofNat (nat_lit 105)) (nat_lit 0)), (.int (.ofNat (nat_lit 0)) (nat_lit 0)), (.ref (nat_lit 375)), (.int (.ofNat (nat_lit 110)) (nat_lit 0)), (.int (.ofNat (nat_lit 0)) (nat_lit 0)), (.ref (nat_lit 382)), (.int (.ofNat (nat_lit 115)) (nat_lit 0)), (.int (.ofNat (nat_lit 0)) (nat_lit 0)), (.ref (nat_lit 389)), (.int (.ofNat (nat_lit 118)) (nat_lit 0)), (.int (.ofNat (nat_lit 0)) (nat_lit 0)), (.ref (nat_lit 396)), (.int (.ofNat (nat_lit 123)) (nat_lit 0)), (.int (.ofNat (nat_lit 0)) (nat_lit 0)), (.ref (nat_lit 403)), (.int (.ofNat (nat_lit 127)) (nat_lit 0)), (.int (.ofNat (nat_lit 0)) (nat_lit 0)), (.ref (nat_lit 410)), (.int (.ofNat (nat_lit 144)) (nat_lit 0)), (.int (.ofNat (nat_lit 0)) (nat_lit 0)), (.ref (nat_lit 417)), (.int (.ofNat (nat_lit 151)) (nat_lit 0)), (.int (.ofNat (nat_lit 0)) (nat_lit 0)), (.ref (nat_lit 424)), (.int (.ofNat (nat_lit 172)) (nat_lit 0)), (.int (.ofNat (nat_lit 0)) (nat_lit 0)), (.ref (nat_lit 431)), (.int (.ofNat (nat_lit 177)) (nat_lit 0)), (.int (.ofNat (nat_lit 0)) (nat_lit 0)), (.ref (nat_lit 438)), (.int (.ofNat (nat_lit 182)) (nat_lit 0)), (.int (.ofNat (nat_lit 0)) (nat_lit 0)), (.ref (nat_lit 445))]), #[]⟩
noncomputable def o391_18 (P : Params) : Obj := ⟨(.type "tuple"), none, (.seq #[] (nat_lit 0)), #[]⟩
noncomputable def o392_18 (P : Params) : Obj := ⟨.none, none, (.fields #[]), #[]⟩
noncomputable def o393_18 (P : Params) : Obj := ⟨(.type "tuple"), none, (.seq #[(.str x250 (nat_lit 713)), (.str x251 (nat_lit 714))] (nat_lit 0)), #[]⟩
noncomputable def o394_18 (P : Params) : Obj := ⟨(.type "tuple"), none, (.seq #[] (nat_lit 0)), #[]⟩
noncomputable def o395_18 (P : Params) : Obj := ⟨.none, none, (.func ⟨x249, x249, L2.defArgs (ht 35), .stmts (L2.defBody (ht 35)), L2.defScope (ht 35), (nat_lit 0), [], .none, .none, .none, .none, none, .none, .none, (nat_lit 0)⟩), #[]⟩
noncomputable def o396_18 (P : Params) : Obj := ⟨(.type "code"), none, (.fields #[(.str x249 (nat_lit 710)), (.str x249 (nat_lit 711)), (.str x164 (nat_lit 712)), (.int (.ofNat (nat_lit 118)) (nat_lit 0)), (.int (.ofNat (nat_lit 2)) (nat_lit 0)), (.int (.ofNat (nat_lit 0)) (nat_lit 0)), (.int (.ofNat (nat_lit 0)) (nat_lit 0)), (.int (.ofNat (nat_lit 3)) (nat_lit 0)), (.ref (nat_lit 391)), (.bool true), (.int (.ofNat (nat_lit 181)) (nat_lit 0)), (.ref (nat_lit 392)), .none, (.ref (nat_lit 393)), (.ref (nat_lit 394)), (.ref (nat_lit 395)), (.int (.ofNat (nat_lit 715)) (nat_lit 0)), (.int (.ofNat (nat_lit 118)) (nat_lit 0)), (.str x164 (nat_lit 716))]), #[]⟩
noncomputable def o397_18 (P : Params) : Obj := ⟨(.type "function"), none, (.func ⟨x249, x249, L2.defArgs (ht 35), .stmts (L2.defBody (ht 35)), L2.defScope (ht 35), (nat_lit 3), [], .none, .none, .none, (.str x248 (nat_lit 708)), none, (.ref (nat_lit 396)), .none, (nat_lit 0)⟩), #[]⟩
noncomputable def o398_18 (P : Params) : Obj := ⟨(.type "tuple"), none, (.seq #[] (nat_lit 0)), #[]⟩
noncomputable def o399_18 (P : Params) : Obj := ⟨.none, none, (.fields #[]), #[]⟩
noncomputable def o400_18 (P : Params) : Obj := ⟨(.type "tuple"), none, (.seq #[(.str x254 (nat_lit 723)), (.str x255 (nat_lit 724))] (nat_lit 0)), #[]⟩
noncomputable def o401_18 (P : Params) : Obj := ⟨(.type "tuple"), none, (.seq #[] (nat_lit 0)), #[]⟩
noncomputable def o402_18 (P : Params) : Obj := ⟨.none, none, (.func ⟨x253, x253, L2.defArgs (ht 37), .stmts (L2.defBody (ht 37)), L2.defScope (ht 37), (nat_lit 0), [], .none, .none, .none, .none, none, .none, .none, (nat_lit 0)⟩), #[]⟩
noncomputable def o403_18 (P : Params) : Obj := ⟨(.type "code"), none, (.fields #[(.str x253 (nat_lit 720)), (.str x253 (nat_lit 721)), (.str x164 (nat_lit 722)), (.int (.ofNat (nat_lit 123)) (nat_lit 0)), (.int (.ofNat (nat_lit 2)) (nat_lit 0)), (.int (.ofNat (nat_lit 0)) (nat_lit 0)), (.int (.ofNat (nat_lit 0)) (nat_lit 0)), (.int (.ofNat (nat_lit 3)) (nat_lit 0)), (.ref (nat_lit 398)), (.bool true), (.int (.ofNat (nat_lit 181)) (nat_lit 0)), (.ref (nat_lit 399)), .none, (.ref (nat_lit 400)), (.ref (nat_lit 401)), (.ref (nat_lit 402)), (.int (.ofNat (nat_lit 725)) (nat_lit 0)), (.int (.ofNat (nat_lit 123)) (nat_lit 0)), (.str x164 (nat_lit 726))]), #[]⟩
noncomputable def o404_18 (P : Params) : Obj := ⟨(.type "function"), none, (.func ⟨x253, x253, L2.defArgs (ht 37), .stmts (L2.defBody (ht 37)), L2.defScope (ht 37), (nat_lit 3), [], .none, .none, .none, (.str x252 (nat_lit 718)), none, (.ref (nat_lit 403)), .none, (nat_lit 0)⟩), #[]⟩
noncomputable def o405_18 (P : Params) : Obj := ⟨(.type "tuple"), none, (.seq #[] (nat_lit 0)), #[]⟩
noncomputable def o406_18 (P : Params) : Obj := ⟨.none, none, (.fields #[]), #[]⟩
noncomputable def o407_18 (P : Params) : Obj := ⟨(.type "tuple"), none, (.seq #[(.str x257 (nat_lit 731)), (.str x258 (nat_lit 732)), (.str x255 (nat_lit 733)), (.str x259 (nat_lit 734)), (.str x260 (nat_lit 735))] (nat_lit 0)), #[]⟩
noncomputable def o408_18 (P : Params) : Obj := ⟨(.type "tuple"), none, (.seq #[] (nat_lit 0)), #[]⟩
noncomputable def o409_18 (P : Params) : Obj := ⟨.none, none, (.func ⟨x256, x256, L2.defArgs (ht 38), .stmts (L2.defBody (ht 38)), L2.defScope (ht 38), (nat_lit 0), [], .none, .none, .none, .none, none, .none, .none, (nat_lit 0)⟩), #[]⟩
noncomputable def o410_18 (P : Params) : Obj := ⟨(.type "code"), none, (.fields #[(.str x256 (nat_lit 728)), (.str x256 (nat_lit 729)), (.str x164 (nat_lit 730)), (.int (.ofNat (nat_lit 127)) (nat_lit 0)), (.int (.ofNat (nat_lit 1)) (nat_lit 0)), (.int (.ofNat (nat_lit 0)) (nat_lit 0)), (.int (.ofNat (nat_lit 0)) (nat_lit 0)), (.int (.ofNat (nat_lit 3)) (nat_lit 0)), (.ref (nat_lit 405)), (.bool true), (.int (.ofNat (nat_lit 181)) (nat_lit 0)), (.ref (nat_lit 406)), .none, (.ref (nat_lit 407)), (.ref (nat_lit 408)), (.ref (nat_lit 409)), (.int (.ofNat (nat_lit 736)) (nat_lit 0)), (.int (.ofNat (nat_lit 127)) (nat_lit 0)), (.str x164 (nat_lit 737))]), #[]⟩
noncomputable def o411_18 (P : Params) : Obj := ⟨(.type "function"), none, (.func ⟨x256, x256, L2.defArgs (ht 38), .stmts (L2.defBody (ht 38)), L2.defScope (ht 38), (nat_lit 3), [], .none, .none, .none, (.str x252 (nat_lit 718)), none, (.ref (nat_lit 410)), .none, (nat_lit 0)⟩), #[]⟩
noncomputable def o412_18 (P : Params) : Obj := ⟨(.type "tuple"), none, (.seq #[] (nat_lit 0)), #[]⟩
noncomputable def o413_18 (P : Params) : Obj := ⟨.none, none, (.fields #[]), #[]⟩
noncomputable def o414_18 (P : Params) : Obj := ⟨(.type "tuple"), none, (.seq #[(.str x257 (nat_lit 742)), (.str x262 (nat_lit 743))] (nat_lit 0)), #[]⟩
noncomputable def o415_18 (P : Params) : Obj := ⟨(.type "tuple"), none, (.seq #[] (nat_lit 0)), #[]⟩
noncomputable def o416_18 (P : Params) : Obj := ⟨.none, none, (.func ⟨x261, x261, L2.defArgs (ht 39), .stmts (L2.defBody (ht 39)), L2.defScope (ht 39), (nat_lit 0), [], .none, .none, .none, .none, none, .none, .none, (nat_lit 0)⟩), #[]⟩
noncomputable def o417_18 (P : Params) : Obj := ⟨(.type "code"), none, (.fields #[(.str x261 (nat_lit 739)), (.str x261 (nat_lit 740)), (.str x164 (nat_lit 741)), (.int (.ofNat (nat_lit 144)) (nat_lit 0)), (.int (.ofNat (nat_lit 1)) (nat_lit 0)), (.int (.ofNat (nat_lit 0)) (nat_lit 0)), (.int (.ofNat (nat_lit 0)) (nat_lit 0)), (.int (.ofNat (nat_lit 3)) (nat_lit 0)), (.ref (nat_lit 412)), (.bool true), (.int (.ofNat (nat_lit 181)) (nat_lit 0)), (.ref (nat_lit 413)), .none, (.ref (nat_lit 414)), (.ref (nat_lit 415)), (.ref (nat_lit 416)), (.int (.ofNat (nat_lit 744)) (nat_lit 0)), (.int (.ofNat (nat_lit 144)) (nat_lit 0)), (.str x164 (nat_lit 745))]), #[]⟩
noncomputable def o418_18 (P : Params) : Obj := ⟨(.type "function"), none, (.func ⟨x261, x261, L2.defArgs (ht 39), .stmts (L2.defBody (ht 39)), L2.defScope (ht 39), (nat_lit 3), [], .none, .none, .none, (.str x252 (nat_lit 718)), none, (.ref (nat_lit 417)), .none, (nat_lit 0)⟩), #[]⟩
noncomputable def o419_18 (P : Params) : Obj := ⟨(.type "tuple"), none, (.seq #[] (nat_lit 0)), #[]⟩
noncomputable def o420_18 (P : Params) : Obj := ⟨.none, none, (.fields #[]), #[]⟩
noncomputable def o421_18 (P : Params) : Obj := ⟨(.type "tuple"), none, (.seq #[(.str x264 (nat_lit 750)), (.str x265 (nat_lit 751))] (nat_lit 0)), #[]⟩
noncomputable def o422_18 (P : Params) : Obj := ⟨(.type "tuple"), none, (.seq #[] (nat_lit 0)), #[]⟩
noncomputable def o423_18 (P : Params) : Obj := ⟨.none, none, (.func ⟨x263, x263, L2.defArgs (ht 40), .stmts (L2.defBody (ht 40)), L2.defScope (ht 40), (nat_lit 0), [], .none, .none, .none, .none, none, .none, .none, (nat_lit 0)⟩), #[]⟩
noncomputable def o424_18 (P : Params) : Obj := ⟨(.type "code"), none, (.fields #[(.str x263 (nat_lit 747)), (.str x263 (nat_lit 748)), (.str x164 (nat_lit 749)), (.int (.ofNat (nat_lit 151)) (nat_lit 0)), (.int (.ofNat (nat_lit 1)) (nat_lit 0)), (.int (.ofNat (nat_lit 0)) (nat_lit 0)), (.int (.ofNat (nat_lit 0)) (nat_lit 0)), (.int (.ofNat (nat_lit 3)) (nat_lit 0)), (.ref (nat_lit 419)), (.bool true), (.int (.ofNat (nat_lit 181)) (nat_lit 0)), (.ref (nat_lit 420)), .none, (.ref (nat_lit 421)), (.ref (nat_lit 422)), (.ref (nat_lit 423)), (.int (.ofNat (nat_lit 752)) (nat_lit 0)), (.int (.ofNat (nat_lit 151)) (nat_lit 0)), (.str x164 (nat_lit 753))]), #[]⟩
noncomputable def o425_18 (P : Params) : Obj := ⟨(.type "function"), none, (.func ⟨x263, x263, L2.defArgs (ht 40), .stmts (L2.defBody (ht 40)), L2.defScope (ht 40), (nat_lit 3), [], .none, .none, .none, (.str x252 (nat_lit 718)), none, (.ref (nat_lit 424)), .none, (nat_lit 0)⟩), #[]⟩
noncomputable def o426_18 (P : Params) : Obj := ⟨(.type "tuple"), none, (.seq #[] (nat_lit 0)), #[]⟩
noncomputable def o427_18 (P : Params) : Obj := ⟨.none, none, (.fields #[]), #[]⟩
noncomputable def o428_18 (P : Params) : Obj := ⟨(.type "tuple"), none, (.seq #[(.str x267 (nat_lit 758)), (.str x268 (nat_lit 759)), (.str x264 (nat_lit 760))] (nat_lit 0)), #[]⟩
noncomputable def o429_18 (P : Params) : Obj := ⟨(.type "tuple"), none, (.seq #[] (nat_lit 0)), #[]⟩
noncomputable def o430_18 (P : Params) : Obj := ⟨.none, none, (.func ⟨x266, x266, L2.defArgs (ht 41), .stmts (L2.defBody (ht 41)), L2.defScope (ht 41), (nat_lit 0), [], .none, .none, .none, .none, none, .none, .none, (nat_lit 0)⟩), #[]⟩
noncomputable def o431_18 (P : Params) : Obj := ⟨(.type "code"), none, (.fields #[(.str x266 (nat_lit 755)), (.str x266 (nat_lit 756)), (.str x164 (nat_lit 757)), (.int (.ofNat (nat_lit 172)) (nat_lit 0)), (.int (.ofNat (nat_lit 2)) (nat_lit 0)), (.int (.ofNat (nat_lit 0)) (nat_lit 0)), (.int (.ofNat (nat_lit 0)) (nat_lit 0)), (.int (.ofNat (nat_lit 3)) (nat_lit 0)), (.ref (nat_lit 426)), (.bool true), (.int (.ofNat (nat_lit 181)) (nat_lit 0)), (.ref (nat_lit 427)), .none, (.ref (nat_lit 428)), (.ref (nat_lit 429)), (.ref (nat_lit 430)), (.int (.ofNat (nat_lit 761)) (nat_lit 0)), (.int (.ofNat (nat_lit 172)) (nat_lit 0)), (.str x164 (nat_lit 762))]), #[]⟩
noncomputable def o432_18 (P : Params) : Obj := ⟨(.type "function"), none, (.func ⟨x266, x266, L2.defArgs (ht 41), .stmts (L2.defBody (ht 41)), L2.defScope (ht 41), (nat_lit 3), [], .none, .none, .none, (.str x252 (nat_lit 718)), none, (.ref (nat_lit 431)), .none, (nat_lit 0)⟩), #[]⟩
noncomputable def o433_18 (P : Params) : Obj := ⟨(.type "tuple"), none, (.seq #[] (nat_lit 0)), #[]⟩
noncomputable def o434_18 (P : Params) : Obj := ⟨.none, none, (.fields #[]), #[]⟩
noncomputable def o435_18 (P : Params) : Obj := ⟨(.type "tuple"), none, (.seq #[(.str x260 (nat_lit 767)), (.str x270 (nat_lit 768))] (nat_lit 0)), #[]⟩
noncomputable def o436_18 (P : Params) : Obj := ⟨(.type "tuple"), none, (.seq #[] (nat_lit 0)), #[]⟩
noncomputable def o437_18 (P : Params) : Obj := ⟨.none, none, (.func ⟨x269, x269, L2.defArgs (ht 42), .stmts (L2.defBody (ht 42)), L2.defScope (ht 42), (nat_lit 0), [], .none, .none, .none, .none, none, .none, .none, (nat_lit 0)⟩), #[]⟩
noncomputable def o438_18 (P : Params) : Obj := ⟨(.type "code"), none, (.fields #[(.str x269 (nat_lit 764)), (.str x269 (nat_lit 765)), (.str x164 (nat_lit 766)), (.int (.ofNat (nat_lit 177)) (nat_lit 0)), (.int (.ofNat (nat_lit 2)) (nat_lit 0)), (.int (.ofNat (nat_lit 0)) (nat_lit 0)), (.int (.ofNat (nat_lit 0)) (nat_lit 0)), (.int (.ofNat (nat_lit 3)) (nat_lit 0)), (.ref (nat_lit 433)), (.bool true), (.int (.ofNat (nat_lit 181)) (nat_lit 0)), (.ref (nat_lit 434)), .none, (.ref (nat_lit 435)), (.ref (nat_lit 436)), (.ref (nat_lit 437)), (.int (.ofNat (nat_lit 769)) (nat_lit 0)), (.int (.ofNat (nat_lit 177)) (nat_lit 0)), (.str x164 (nat_lit 770))]), #[]⟩
noncomputable def o439_18 (P : Params) : Obj := ⟨(.type "function"), none, (.func ⟨x269, x269, L2.defArgs (ht 42), .stmts (L2.defBody (ht 42)), L2.defScope (ht 42), (nat_lit 3), [], .none, .none, .none, (.str x252 (nat_lit 718)), none, (.ref (nat_lit 438)), .none, (nat_lit 0)⟩), #[]⟩
noncomputable def o440_18 (P : Params) : Obj := ⟨(.type "tuple"), none, (.seq #[] (nat_lit 0)), #[]⟩
noncomputable def o441_18 (P : Params) : Obj := ⟨.none, none, (.fields #[]), #[]⟩
noncomputable def o442_18 (P : Params) : Obj := ⟨(.type "tuple"), none, (.seq #[(.str x254 (nat_lit 775)), (.str x267 (nat_lit 776)), (.str x272 (nat_lit 777)), (.str x273 (nat_lit 778)), (.str x268 (nat_lit 779)), (.str x274 (nat_lit 780)), (.str x275 (nat_lit 781)), (.str x276 (nat_lit 782)), (.str x277 (nat_lit 783))] (nat_lit 0)), #[]⟩
noncomputable def o443_18 (P : Params) : Obj := ⟨(.type "tuple"), none, (.seq #[] (nat_lit 0)), #[]⟩
noncomputable def o444_18 (P : Params) : Obj := ⟨.none, none, (.func ⟨x271, x271, L2.defArgs (ht 43), .stmts (L2.defBody (ht 43)), L2.defScope (ht 43), (nat_lit 0), [], .none, .none, .none, .none, none, .none, .none, (nat_lit 0)⟩), #[]⟩
noncomputable def o445_18 (P : Params) : Obj := ⟨(.type "code"), none, (.fields #[(.str x271 (nat_lit 772)), (.str x271 (nat_lit 773)), (.str x164 (nat_lit 774)), (.int (.ofNat (nat_lit 182)) (nat_lit 0)), (.int (.ofNat (nat_lit 1)) (nat_lit 0)), (.int (.ofNat (nat_lit 0)) (nat_lit 0)), (.int (.ofNat (nat_lit 0)) (nat_lit 0)), (.int (.ofNat (nat_lit 3)) (nat_lit 0)), (.ref (nat_lit 440)), (.bool true), (.int (.ofNat (nat_lit 181)) (nat_lit 0)), (.ref (nat_lit 441)), .none, (.ref (nat_lit 442)), (.ref (nat_lit 443)), (.ref (nat_lit 444)), (.int (.ofNat (nat_lit 784)) (nat_lit 0)), (.int (.ofNat (nat_lit 182)) (nat_lit 0)), (.str x164 (nat_lit 785))]), #[]⟩
noncomputable def o446_18 (P : Params) : Obj := ⟨(.type "function"), none, (.func ⟨x271, x271, L2.defArgs (ht 43), .stmts (L2.defBody (ht 43)), L2.defScope (ht 43), (nat_lit 3), [], .none, .none, .none, (.str x252 (nat_lit 718)), none, (.ref (nat_lit 445)), .none, (nat_lit 0)⟩), #[]⟩
noncomputable def g18 : List Stmt := [ht 35, ht 36, ht 37, ht 38, ht 39, ht 40, ht 41, ht 42, ht 43]
noncomputable def T18 (P : Params) : BT := (((((((((((((((((((((((((((((((((((((((((((((((((((((((((((T17 P).ins (nat_lit 3) (o3_18 P)).ins (nat_lit 12) (o12_18 P)).ins (nat_lit 391) (o391_18 P)).ins (nat_lit 392) (o392_18 P)).ins (nat_lit 393) (o393_18 P)).ins (nat_lit 394) (o394_18 P)).ins (nat_lit 395) (o395_18 P)).ins (nat_lit 396) (o396_18 P)).ins (nat_lit 397) (o397_18 P)).ins (nat_lit 398) (o398_18 P)).ins (nat_lit 399) (o399_18 P)).ins (nat_lit 400) (o400_18 P)).ins (nat_lit 401) (o401_18 P)).ins (nat_lit 402) (o402_18 P)).ins (nat_lit 403) (o403_18 P)).ins (nat_lit 404) (o404_18 P)).ins (nat_lit 405) (o405_18 P)).ins (nat_lit 406) (o406_18 P)).ins (nat_lit 407) (o407_18 P)).ins (nat_lit 408) (o408_18 P)).ins (nat_lit 409) (o409_18 P)).ins (nat_lit 410) (o410_18 P)).ins (nat_lit 411) (o411_18 P)).ins (nat_lit 412) (o412_18 P)).ins (nat_lit 413) (o413_18 P)).ins (nat_lit 414) (o414_18 P)).ins (nat_lit 415) (o415_18 P)).ins (nat_lit 416) (o416_18 P)).ins (nat_lit 417) (o417_18 P)).ins (nat_lit 418) (o418_18 P)).ins (nat_lit 419) (o419_18 P)).ins (nat_lit 420) (o420_18 P)).ins (nat_lit 421) (o421_18 P)).ins (nat_lit 422) (o422_18 P)).ins (nat_lit 423) (o423_18 P)).ins (nat_lit 424) (o424_18 P)).ins (nat_lit 425) (o425_18 P)).ins (nat_lit 426) (o426_18 P)).ins (nat_lit 427) (o427_18 P)).ins (nat_lit 428) (o428_18 P)).ins (nat_lit 429) (o429_18 P)).ins (nat_lit 430) (o430_18 P)).ins (nat_lit 431) (o431_18 P)).ins (nat_lit 432) (o432_18 P)).ins (nat_lit 433) (o433_18 P)).ins (nat_lit 434) (o434_18 P)).ins (nat_lit 435) (o435_18 P)).ins (nat_lit 436) (o436_18 P)).ins (nat_lit 437) (o437_18 P)).ins (nat_lit 438) (o438_18 P)).ins (nat_lit 439) (o439_18 P)).ins (nat_lit 440) (o440_18 P)).ins (nat_lit 441) (o441_18 P)).ins (nat_lit 442) (o442_18 P)).ins (nat_lit 443) (o443_18 P)).ins (nat_lit 444) (o444_18 P)).ins (nat_lit 445) (o445_18 P)).ins (nat_lit 446) (o446_18 P))
noncomputable def lf18 : Life := ⟨[], [], [], (nat_lit 0), [], [], false, #[], [], (nat_lit 0), false, false, false, (.ofNat (nat_lit 0)), [(.ofNat (nat_lit 2000)), (.ofNat (nat_lit 10)), (.ofNat (nat_lit 10))], false, (nat_lit 0), true, [], [], (nat_lit 0), false⟩
noncomputable abbrev S18 (w : World) (os : OsState) : SharedT := ⟨T18 w.params, nat_lit 447, lf18, Array.mk [], ⟨(nat_lit 0), (nat_lit 0), (nat_lit 0), (nat_lit 0)⟩, nat_lit 787, os⟩
noncomputable def q18 (w : World) : (OsState → Option (Flow × SharedT × Code × Pos)) × (OsState → Option (Flow × SharedT × Code × Pos)) := (fun os => segRunT treeTable pw w (nat_lit 11) (some (.ref (nat_lit 6))) (nat_lit 1) (nat_lit 261) (S17 w os) (piecesOf g18 hE hC ⟨(nat_lit 117), (nat_lit 0), (nat_lit 117), (nat_lit 8)⟩ hB), fun os => some (Flow.next, S18 w os, hC, ⟨(nat_lit 182), (nat_lit 0), (nat_lit 202), (nat_lit 97)⟩))
theorem q18_eq : HD.seg pw (nat_lit 11) (some (.ref (nat_lit 6))) (nat_lit 261) S17 S18 g18 hE hC ⟨(nat_lit 117), (nat_lit 0), (nat_lit 117), (nat_lit 8)⟩ ⟨(nat_lit 182), (nat_lit 0), (nat_lit 202), (nat_lit 97)⟩ hB = q18 := by kernel_rfl
name_quick YK4018 for q18 by q18_eq
theorem i18 (w : World) : (Fast.YK4018 w).1 = (Fast.YK4018 w).2 := by kernel_rfl
theorem h18 : HD.Ok (HD.seg pw (nat_lit 11) (some (.ref (nat_lit 6))) (nat_lit 261) S17 S18 g18 hE hC ⟨(nat_lit 117), (nat_lit 0), (nat_lit 117), (nat_lit 8)⟩ ⟨(nat_lit 182), (nat_lit 0), (nat_lit 202), (nat_lit 97)⟩ hB) := HD.by1 Fast.YK4018_eq i18
noncomputable def Hf_0 (P : Params) (r : List (Obj)) : List (Obj) := PySem.W.boot_o_0 P :: PySem.W.boot_o_1 P :: PySem.W.boot_o_2 P :: o3_18 P :: PySem.W.boot_o_4 P :: PySem.W.boot_o_5 P :: PySem.W.boot_o_6 P :: PySem.W.boot_o_7 P :: PySem.W.boot_o_8 P :: PySem.W.boot_o_9 P :: PySem.W.boot_o_10 P :: o11_a P :: r
noncomputable def Hf_1 (P : Params) (r : List (Obj)) : List (Obj) := o12_18 P :: o13_a P :: o14_a P :: o15_1 P :: o16_1 P :: o17_1 P :: o18_1 P :: o19_1 P :: o20_1 P :: o21_1 P :: o22_1 P :: o23_1 P :: r
noncomputable def Hf_2 (P : Params) (r : List (Obj)) : List (Obj) := o24_1 P :: o25_1 P :: o26_1 P :: o27_1 P :: o28_1 P :: o29_1 P :: o30_1 P :: o31_1 P :: o32_1 P :: o33_1 P :: o34_1 P :: o35_1 P :: r
noncomputable def Hf_3 (P : Params) (r : List (Obj)) : List (Obj) := o36_1 P :: o37_1 P :: o38_15 P :: o39_1 P :: o40_1 P :: o41_1 P :: o42_2 P :: o43_2 P :: o44_2 P :: o45_2 P :: o46_2 P :: o47_2 P :: r
noncomputable def Hf_4 (P : Params) (r : List (Obj)) : List (Obj) := o48_2 P :: o49_2 P :: o50_2 P :: o51_2 P :: o52_2 P :: o53_2 P :: o54_2 P :: o55_2 P :: o56_2 P :: o57_2 P :: o58_2 P :: o59_2 P :: r
noncomputable def Hf_5 (P : Params) (r : List (Obj)) : List (Obj) := o60_2 P :: o61_3 P :: o62_3 P :: o63_3 P :: o64_3 P :: o65_3 P :: o66_3 P :: o67_3 P :: o68_3 P :: o69_3 P :: o70_3 P :: o71_3 P :: r
noncomputable def Hf_6 (P : Params) (r : List (Obj)) : List (Obj) := o72_3 P :: o73_3 P :: o74_3 P :: o75_3 P :: o76_3 P :: o77_3 P :: o78_3 P :: o79_3 P :: o80_4 P :: o81_4 P :: o82_4 P :: o83_4 P :: r
noncomputable def Hf_7 (P : Params) (r : List (Obj)) : List (Obj) := o84_4 P :: o85_4 P :: o86_4 P :: o87_4 P :: o88_4 P :: o89_4 P :: o90_4 P :: o91_4 P :: o92_4 P :: o93_4 P :: o94_4 P :: o95_4 P :: r
noncomputable def Hf_8 (P : Params) (r : List (Obj)) : List (Obj) := o96_4 P :: o97_4 P :: o98_4 P :: o99_5 P :: o100_5 P :: o101_5 P :: o102_5 P :: o103_5 P :: o104_5 P :: o105_5 P :: o106_5 P :: o107_5 P :: r
noncomputable def Hf_9 (P : Params) (r : List (Obj)) : List (Obj) := o108_5 P :: o109_5 P :: o110_5 P :: o111_5 P :: o112_5 P :: o113_5 P :: o114_5 P :: o115_5 P :: o116_5 P :: o117_5 P :: o118_6 P :: o119_6 P :: r
noncomputable def Hf_10 (P : Params) (r : List (Obj)) : List (Obj) := o120_6 P :: o121_6 P :: o122_6 P :: o123_6 P :: o124_6 P :: o125_6 P :: o126_6 P :: o127_6 P :: o128_6 P :: o129_6 P :: o130_6 P :: o131_6 P :: r
noncomputable def Hf_11 (P : Params) (r : List (Obj)) : List (Obj) := o132_6 P :: o133_6 P :: o134_6 P :: o135_6 P :: o136_6 P :: o137_7 P :: o138_7 P :: o139_7 P :: o140_7 P :: o141_7 P :: o142_7 P :: o143_7 P :: r
noncomputable def Hf_12 (P : Params) (r : List (Obj)) : List (Obj) := o144_7 P :: o145_7 P :: o146_7 P :: o147_7 P :: o148_7 P :: o149_7 P :: o150_7 P :: o151_7 P :: o152_7 P :: o153_7 P :: o154_7 P :: o155_7 P :: r
noncomputable def Hf_13 (P : Params) (r : List (Obj)) : List (Obj) := o156_8 P :: o157_8 P :: o158_8 P :: o159_8 P :: o160_8 P :: o161_8 P :: o162_8 P :: o163_8 P :: o164_8 P :: o165_8 P :: o166_8 P :: o167_8 P :: r
noncomputable def Hf_14 (P : Params) (r : List (Obj)) : List (Obj) := o168_8 P :: o169_8 P :: o170_8 P :: o171_8 P :: o172_8 P :: o173_8 P :: o174_8 P :: o175_9 P :: o176_9 P :: o177_9 P :: o178_9 P :: o179_9 P :: r
noncomputable def Hf_15 (P : Params) (r : List (Obj)) : List (Obj) := o180_9 P :: o181_9 P :: o182_9 P :: o183_9 P :: o184_9 P :: o185_9 P :: o186_9 P :: o187_9 P :: o188_9 P :: o189_9 P :: o190_9 P :: o191_9 P :: r
noncomputable def Hf_16 (P : Params) (r : List (Obj)) : List (Obj) := o192_9 P :: o193_9 P :: o194_10 P :: o195_10 P :: o196_10 P :: o197_10 P :: o198_10 P :: o199_10 P :: o200_10 P :: o201_10 P :: o202_10 P :: o203_10 P :: r
noncomputable def Hf_17 (P : Params) (r : List (Obj)) : List (Obj) := o204_10 P :: o205_10 P :: o206_10 P :: o207_10 P :: o208_10 P :: o209_10 P :: o210_10 P :: o211_10 P :: o212_10 P :: o213_11 P :: o214_11 P :: o215_11 P :: r
noncomputable def Hf_18 (P : Params) (r : List (Obj)) : List (Obj) := o216_11 P :: o217_11 P :: o218_11 P :: o219_11 P :: o220_11 P :: o221_11 P :: o222_11 P :: o223_11 P :: o224_11 P :: o225_11 P :: o226_11 P :: o227_11 P :: r
noncomputable def Hf_19 (P : Params) (r : List (Obj)) : List (Obj) := o228_11 P :: o229_11 P :: o230_11 P :: o231_11 P :: o232_12 P :: o233_12 P :: o234_12 P :: o235_12 P :: o236_12 P :: o237_12 P :: o238_12 P :: o239_12 P :: r
noncomputable def Hf_20 (P : Params) (r : List (Obj)) : List (Obj) := o240_12 P :: o241_12 P :: o242_12 P :: o243_12 P :: o244_12 P :: o245_12 P :: o246_12 P :: o247_12 P :: o248_12 P :: o249_12 P :: o250_12 P :: o251_13 P :: r
noncomputable def Hf_21 (P : Params) (r : List (Obj)) : List (Obj) := o252_13 P :: o253_13 P :: o254_13 P :: o255_13 P :: o256_13 P :: o257_13 P :: o258_13 P :: o259_13 P :: o260_13 P :: o261_13 P :: o262_13 P :: o263_13 P :: r
noncomputable def Hf_22 (P : Params) (r : List (Obj)) : List (Obj) := o264_13 P :: o265_13 P :: o266_13 P :: o267_13 P :: o268_13 P :: o269_13 P :: o270_14 P :: o271_14 P :: o272_14 P :: o273_14 P :: o274_14 P :: o275_14 P :: r
noncomputable def Hf_23 (P : Params) (r : List (Obj)) : List (Obj) := o276_14 P :: o277_14 P :: o278_14 P :: o279_14 P :: o280_14 P :: o281_14 P :: o282_14 P :: o283_14 P :: o284_14 P :: o285_14 P :: o286_14 P :: o287_14 P :: r
noncomputable def Hf_24 (P : Params) (r : List (Obj)) : List (Obj) := o288_14 P :: o289_15 P :: o290_15 P :: o291_15 P :: o292_15 P :: o293_15 P :: o294_15 P :: o295_15 P :: o296_15 P :: o297_15 P :: o298_15 P :: o299_15 P :: r
noncomputable def Hf_25 (P : Params) (r : List (Obj)) : List (Obj) := o300_15 P :: o301_15 P :: o302_15 P :: o303_15 P :: o304_15 P :: o305_15 P :: o306_15 P :: o307_15 P :: o308_16 P :: o309_16 P :: o310_16 P :: o311_16 P :: r
noncomputable def Hf_26 (P : Params) (r : List (Obj)) : List (Obj) := o312_16 P :: o313_16 P :: o314_16 P :: o315_16 P :: o316_16 P :: o317_16 P :: o318_16 P :: o319_16 P :: o320_16 P :: o321_16 P :: o322_16 P :: o323_16 P :: r
noncomputable def Hf_27 (P : Params) (r : List (Obj)) : List (Obj) := o324_16 P :: o325_16 P :: o326_16 P :: o327_16 P :: o328_17 P :: o329_17 P :: o330_17 P :: o331_17 P :: o332_17 P :: o333_17 P :: o334_17 P :: o335_17 P :: r
noncomputable def Hf_28 (P : Params) (r : List (Obj)) : List (Obj) := o336_17 P :: o337_17 P :: o338_17 P :: o339_17 P :: o340_17 P :: o341_17 P :: o342_17 P :: o343_17 P :: o344_17 P :: o345_17 P :: o346_17 P :: o347_17 P :: r
noncomputable def Hf_29 (P : Params) (r : List (Obj)) : List (Obj) := o348_17 P :: o349_17 P :: o350_17 P :: o351_17 P :: o352_17 P :: o353_17 P :: o354_17 P :: o355_17 P :: o356_17 P :: o357_17 P :: o358_17 P :: o359_17 P :: r
noncomputable def Hf_30 (P : Params) (r : List (Obj)) : List (Obj) := o360_17 P :: o361_17 P :: o362_17 P :: o363_17 P :: o364_17 P :: o365_17 P :: o366_17 P :: o367_17 P :: o368_17 P :: o369_17 P :: o370_17 P :: o371_17 P :: r
noncomputable def Hf_31 (P : Params) (r : List (Obj)) : List (Obj) := o372_17 P :: o373_17 P :: o374_17 P :: o375_17 P :: o376_17 P :: o377_17 P :: o378_17 P :: o379_17 P :: o380_17 P :: o381_17 P :: o382_17 P :: o383_17 P :: r
noncomputable def Hf_32 (P : Params) (r : List (Obj)) : List (Obj) := o384_17 P :: o385_17 P :: o386_17 P :: o387_17 P :: o388_17 P :: o389_17 P :: o390_17 P :: o391_18 P :: o392_18 P :: o393_18 P :: o394_18 P :: o395_18 P :: r
noncomputable def Hf_33 (P : Params) (r : List (Obj)) : List (Obj) := o396_18 P :: o397_18 P :: o398_18 P :: o399_18 P :: o400_18 P :: o401_18 P :: o402_18 P :: o403_18 P :: o404_18 P :: o405_18 P :: o406_18 P :: o407_18 P :: r
noncomputable def Hf_34 (P : Params) (r : List (Obj)) : List (Obj) := o408_18 P :: o409_18 P :: o410_18 P :: o411_18 P :: o412_18 P :: o413_18 P :: o414_18 P :: o415_18 P :: o416_18 P :: o417_18 P :: o418_18 P :: o419_18 P :: r
noncomputable def Hf_35 (P : Params) (r : List (Obj)) : List (Obj) := o420_18 P :: o421_18 P :: o422_18 P :: o423_18 P :: o424_18 P :: o425_18 P :: o426_18 P :: o427_18 P :: o428_18 P :: o429_18 P :: o430_18 P :: o431_18 P :: r
noncomputable def Hf_36 (P : Params) (r : List (Obj)) : List (Obj) := o432_18 P :: o433_18 P :: o434_18 P :: o435_18 P :: o436_18 P :: o437_18 P :: o438_18 P :: o439_18 P :: o440_18 P :: o441_18 P :: o442_18 P :: o443_18 P :: r
noncomputable def Hf_37 (P : Params) (r : List (Obj)) : List (Obj) := o444_18 P :: o445_18 P :: o446_18 P :: r
noncomputable def Hf (P : Params) : Heap := ⟨Array.mk (Hf_0 P (Hf_1 P (Hf_2 P (Hf_3 P (Hf_4 P (Hf_5 P (Hf_6 P (Hf_7 P (Hf_8 P (Hf_9 P (Hf_10 P (Hf_11 P (Hf_12 P (Hf_13 P (Hf_14 P (Hf_15 P (Hf_16 P (Hf_17 P (Hf_18 P (Hf_19 P (Hf_20 P (Hf_21 P (Hf_22 P (Hf_23 P (Hf_24 P (Hf_25 P (Hf_26 P (Hf_27 P (Hf_28 P (Hf_29 P (Hf_30 P (Hf_31 P (Hf_32 P (Hf_33 P (Hf_34 P (Hf_35 P (Hf_36 P (Hf_37 P [])))))))))))))))))))))))))))))))))))))), ⟨[], [], [], (nat_lit 0), [], [], false, #[], [], (nat_lit 0), false, false, false, (.ofNat (nat_lit 0)), [(.ofNat (nat_lit 2000)), (.ofNat (nat_lit 10)), (.ofNat (nat_lit 10))], false, (nat_lit 0), true, [], [], (nat_lit 0), false⟩⟩
noncomputable def df : Drawn := ⟨(nat_lit 0), (nat_lit 0), (nat_lit 0), (nat_lit 0)⟩
noncomputable def kf : Nat := nat_lit 787
noncomputable abbrev Sf : World → OsState → Shared := HD.mkS Hf df kf
noncomputable def qz (w : World) : (OsState → Option Shared) × (OsState → Option Shared) := (fun os => topRun treeTable pw w (nat_lit 11) (some (.ref (nat_lit 6))) (nat_lit 2) (S18 w os).abs (Thread.mk (doneF Flow.next) hC ⟨(nat_lit 182), (nat_lit 0), (nat_lit 202), (nat_lit 97)⟩ hB), fun os => some (Sf w os))
theorem qz_eq : HD.fin pw (nat_lit 11) (some (.ref (nat_lit 6))) (nat_lit 2) S18 Sf (Thread.mk (doneF Flow.next) hC ⟨(nat_lit 182), (nat_lit 0), (nat_lit 202), (nat_lit 97)⟩ hB) = qz := by kernel_rfl
name_quick YK40z for qz by qz_eq
theorem iz (w : World) : (Fast.YK40z w).1 = (Fast.YK40z w).2 := by kernel_rfl
theorem hz : HD.Ok (HD.fin pw (nat_lit 11) (some (.ref (nat_lit 6))) (nat_lit 2) S18 Sf (Thread.mk (doneF Flow.next) hC ⟨(nat_lit 182), (nat_lit 0), (nat_lit 202), (nat_lit 97)⟩ hB)) := HD.by1 Fast.YK40z_eq iz
theorem hsp : behindTheImports pw = (g1 ++ (g2 ++ (g3 ++ (g4 ++ (g5 ++ (g6 ++ (g7 ++ (g8 ++ (g9 ++ (g10 ++ (g11 ++ (g12 ++ (g13 ++ (g14 ++ (g15 ++ (g16 ++ (g17 ++ (g18 ++ ([] : List Stmt))))))))))))))))))) := by kernel_rfl
theorem hrun : HD.Goes pw (nat_lit 11) (some (.ref (nat_lit 6))) Sf (nat_lit 12 + (nat_lit 1 + (nat_lit 255 + (nat_lit 244 + (nat_lit 244 + (nat_lit 244 + (nat_lit 244 + (nat_lit 244 + (nat_lit 244 + (nat_lit 244 + (nat_lit 244 + (nat_lit 244 + (nat_lit 244 + (nat_lit 244 + (nat_lit 244 + (nat_lit 244 + (nat_lit 280 + (nat_lit 340 + (nat_lit 390 + (nat_lit 261 + (nat_lit 2))))))))))))))))))))) S0 (topStub pw) := HD.g_pre ha (HD.g_blk hsp hb (HD.g_seg h1 (HD.g_seg h2 (HD.g_seg h3 (HD.g_seg h4 (HD.g_seg h5 (HD.g_seg h6 (HD.g_seg h7 (HD.g_seg h8 (HD.g_seg h9 (HD.g_seg h10 (HD.g_seg h11 (HD.g_seg h12 (HD.g_seg h13 (HD.g_seg h14 (HD.g_seg h15 (HD.g_seg h16 (HD.g_seg h17 (HD.g_seg h18 (HD.g_fin (env := hE) hz))))))))))))))))))))
noncomputable def hq : Program := HD.view pw [ht 0, ht 2, ht 3, ht 4, ht 5, ht 6, ht 7, ht 8, ht 9, ht 10, ht 11, ht 12, ht 13, ht 14, ht 15, ht 16, ht 18, ht 19, ht 20, ht 21, ht 22, ht 23, ht 24, ht 25, ht 26, ht 27, ht 28, ht 29, ht 31, ht 32, ht 33, ht 35, ht 37, ht 38, ht 39, ht 40, ht 41, ht 42, ht 43]
noncomputable def hl : List Str := [PySem.Str.ofString "KIDS_DUE", PySem.Str.ofString "BINDER_OVER"]
noncomputable def hK_0 (P : Params) (r : List (Addr × Obj)) : List (Addr × Obj) := (nat_lit 2, PySem.W.boot_o_2 P) :: (nat_lit 3, o3_18 P) :: (nat_lit 15, o15_1 P) :: (nat_lit 17, o17_1 P) :: (nat_lit 18, o18_1 P) :: (nat_lit 20, o20_1 P) :: (nat_lit 21, o21_1 P) :: (nat_lit 22, o22_1 P) :: (nat_lit 29, o29_1 P) :: (nat_lit 31, o31_1 P) :: (nat_lit 32, o32_1 P) :: (nat_lit 34, o34_1 P) :: r
noncomputable def hK_1 (P : Params) (r : List (Addr × Obj)) : List (Addr × Obj) := (nat_lit 35, o35_1 P) :: (nat_lit 36, o36_1 P) :: (nat_lit 37, o37_1 P) :: (nat_lit 38, o38_15 P) :: (nat_lit 39, o39_1 P) :: (nat_lit 42, o42_2 P) :: (nat_lit 49, o49_2 P) :: (nat_lit 51, o51_2 P) :: (nat_lit 52, o52_2 P) :: (nat_lit 54, o54_2 P) :: (nat_lit 55, o55_2 P) :: (nat_lit 56, o56_2 P) :: r
noncomputable def hK_2 (P : Params) (r : List (Addr × Obj)) : List (Addr × Obj) := (nat_lit 57, o57_2 P) :: (nat_lit 58, o58_2 P) :: (nat_lit 61, o61_3 P) :: (nat_lit 68, o68_3 P) :: (nat_lit 70, o70_3 P) :: (nat_lit 71, o71_3 P) :: (nat_lit 73, o73_3 P) :: (nat_lit 74, o74_3 P) :: (nat_lit 75, o75_3 P) :: (nat_lit 76, o76_3 P) :: (nat_lit 77, o77_3 P) :: (nat_lit 80, o80_4 P) :: r
noncomputable def hK_3 (P : Params) (r : List (Addr × Obj)) : List (Addr × Obj) := (nat_lit 87, o87_4 P) :: (nat_lit 89, o89_4 P) :: (nat_lit 90, o90_4 P) :: (nat_lit 92, o92_4 P) :: (nat_lit 93, o93_4 P) :: (nat_lit 94, o94_4 P) :: (nat_lit 95, o95_4 P) :: (nat_lit 96, o96_4 P) :: (nat_lit 99, o99_5 P) :: (nat_lit 106, o106_5 P) :: (nat_lit 108, o108_5 P) :: (nat_lit 109, o109_5 P) :: r
noncomputable def hK_4 (P : Params) (r : List (Addr × Obj)) : List (Addr × Obj) := (nat_lit 111, o111_5 P) :: (nat_lit 112, o112_5 P) :: (nat_lit 113, o113_5 P) :: (nat_lit 114, o114_5 P) :: (nat_lit 115, o115_5 P) :: (nat_lit 118, o118_6 P) :: (nat_lit 125, o125_6 P) :: (nat_lit 127, o127_6 P) :: (nat_lit 128, o128_6 P) :: (nat_lit 130, o130_6 P) :: (nat_lit 131, o131_6 P) :: (nat_lit 132, o132_6 P) :: r
noncomputable def hK_5 (P : Params) (r : List (Addr × Obj)) : List (Addr × Obj) := (nat_lit 133, o133_6 P) :: (nat_lit 134, o134_6 P) :: (nat_lit 137, o137_7 P) :: (nat_lit 144, o144_7 P) :: (nat_lit 146, o146_7 P) :: (nat_lit 147, o147_7 P) :: (nat_lit 149, o149_7 P) :: (nat_lit 150, o150_7 P) :: (nat_lit 151, o151_7 P) :: (nat_lit 152, o152_7 P) :: (nat_lit 153, o153_7 P) :: (nat_lit 156, o156_8 P) :: r
noncomputable def hK_6 (P : Params) (r : List (Addr × Obj)) : List (Addr × Obj) := (nat_lit 163, o163_8 P) :: (nat_lit 165, o165_8 P) :: (nat_lit 166, o166_8 P) :: (nat_lit 168, o168_8 P) :: (nat_lit 169, o169_8 P) :: (nat_lit 170, o170_8 P) :: (nat_lit 171, o171_8 P) :: (nat_lit 172, o172_8 P) :: (nat_lit 175, o175_9 P) :: (nat_lit 182, o182_9 P) :: (nat_lit 184, o184_9 P) :: (nat_lit 185, o185_9 P) :: r
noncomputable def hK_7 (P : Params) (r : List (Addr × Obj)) : List (Addr × Obj) := (nat_lit 187, o187_9 P) :: (nat_lit 188, o188_9 P) :: (nat_lit 189, o189_9 P) :: (nat_lit 190, o190_9 P) :: (nat_lit 191, o191_9 P) :: (nat_lit 194, o194_10 P) :: (nat_lit 201, o201_10 P) :: (nat_lit 203, o203_10 P) :: (nat_lit 204, o204_10 P) :: (nat_lit 206, o206_10 P) :: (nat_lit 207, o207_10 P) :: (nat_lit 208, o208_10 P) :: r
noncomputable def hK_8 (P : Params) (r : List (Addr × Obj)) : List (Addr × Obj) := (nat_lit 209, o209_10 P) :: (nat_lit 210, o210_10 P) :: (nat_lit 213, o213_11 P) :: (nat_lit 220, o220_11 P) :: (nat_lit 222, o222_11 P) :: (nat_lit 223, o223_11 P) :: (nat_lit 225, o225_11 P) :: (nat_lit 226, o226_11 P) :: (nat_lit 227, o227_11 P) :: (nat_lit 228, o228_11 P) :: (nat_lit 229, o229_11 P) :: (nat_lit 232, o232_12 P) :: r
noncomputable def hK_9 (P : Params) (r : List (Addr × Obj)) : List (Addr × Obj) := (nat_lit 239, o239_12 P) :: (nat_lit 241, o241_12 P) :: (nat_lit 242, o242_12 P) :: (nat_lit 244, o244_12 P) :: (nat_lit 245, o245_12 P) :: (nat_lit 246, o246_12 P) :: (nat_lit 247, o247_12 P) :: (nat_lit 248, o248_12 P) :: (nat_lit 251, o251_13 P) :: (nat_lit 258, o258_13 P) :: (nat_lit 260, o260_13 P) :: (nat_lit 261, o261_13 P) :: r
noncomputable def hK_10 (P : Params) (r : List (Addr × Obj)) : List (Addr × Obj) := (nat_lit 263, o263_13 P) :: (nat_lit 264, o264_13 P) :: (nat_lit 265, o265_13 P) :: (nat_lit 266, o266_13 P) :: (nat_lit 267, o267_13 P) :: (nat_lit 270, o270_14 P) :: (nat_lit 277, o277_14 P) :: (nat_lit 279, o279_14 P) :: (nat_lit 280, o280_14 P) :: (nat_lit 282, o282_14 P) :: (nat_lit 283, o283_14 P) :: (nat_lit 284, o284_14 P) :: r
noncomputable def hK_11 (P : Params) (r : List (Addr × Obj)) : List (Addr × Obj) := (nat_lit 285, o285_14 P) :: (nat_lit 286, o286_14 P) :: (nat_lit 289, o289_15 P) :: (nat_lit 296, o296_15 P) :: (nat_lit 298, o298_15 P) :: (nat_lit 299, o299_15 P) :: (nat_lit 301, o301_15 P) :: (nat_lit 302, o302_15 P) :: (nat_lit 303, o303_15 P) :: (nat_lit 304, o304_15 P) :: (nat_lit 305, o305_15 P) :: (nat_lit 308, o308_16 P) :: r
noncomputable def hK_12 (P : Params) (r : List (Addr × Obj)) : List (Addr × Obj) := (nat_lit 309, o309_16 P) :: (nat_lit 310, o310_16 P) :: (nat_lit 311, o311_16 P) :: (nat_lit 312, o312_16 P) :: (nat_lit 313, o313_16 P) :: (nat_lit 314, o314_16 P) :: (nat_lit 315, o315_16 P) :: (nat_lit 316, o316_16 P) :: (nat_lit 317, o317_16 P) :: (nat_lit 318, o318_16 P) :: (nat_lit 319, o319_16 P) :: (nat_lit 320, o320_16 P) :: r
noncomputable def hK_13 (P : Params) (r : List (Addr × Obj)) : List (Addr × Obj) := (nat_lit 321, o321_16 P) :: (nat_lit 322, o322_16 P) :: (nat_lit 323, o323_16 P) :: (nat_lit 324, o324_16 P) :: (nat_lit 325, o325_16 P) :: (nat_lit 327, o327_16 P) :: (nat_lit 328, o328_17 P) :: (nat_lit 329, o329_17 P) :: (nat_lit 331, o331_17 P) :: (nat_lit 332, o332_17 P) :: (nat_lit 334, o334_17 P) :: (nat_lit 335, o335_17 P) :: r
noncomputable def hK_14 (P : Params) (r : List (Addr × Obj)) : List (Addr × Obj) := (nat_lit 336, o336_17 P) :: (nat_lit 339, o339_17 P) :: (nat_lit 340, o340_17 P) :: (nat_lit 341, o341_17 P) :: (nat_lit 343, o343_17 P) :: (nat_lit 344, o344_17 P) :: (nat_lit 346, o346_17 P) :: (nat_lit 347, o347_17 P) :: (nat_lit 348, o348_17 P) :: (nat_lit 351, o351_17 P) :: (nat_lit 352, o352_17 P) :: (nat_lit 353, o353_17 P) :: r
noncomputable def hK_15 (P : Params) (r : List (Addr × Obj)) : List (Addr × Obj) := (nat_lit 356, o356_17 P) :: (nat_lit 357, o357_17 P) :: (nat_lit 358, o358_17 P) :: (nat_lit 360, o360_17 P) :: (nat_lit 361, o361_17 P) :: (nat_lit 363, o363_17 P) :: (nat_lit 364, o364_17 P) :: (nat_lit 365, o365_17 P) :: (nat_lit 367, o367_17 P) :: (nat_lit 368, o368_17 P) :: (nat_lit 370, o370_17 P) :: (nat_lit 371, o371_17 P) :: r
noncomputable def hK_16 (P : Params) (r : List (Addr × Obj)) : List (Addr × Obj) := (nat_lit 372, o372_17 P) :: (nat_lit 375, o375_17 P) :: (nat_lit 376, o376_17 P) :: (nat_lit 377, o377_17 P) :: (nat_lit 379, o379_17 P) :: (nat_lit 380, o380_17 P) :: (nat_lit 382, o382_17 P) :: (nat_lit 383, o383_17 P) :: (nat_lit 384, o384_17 P) :: (nat_lit 386, o386_17 P) :: (nat_lit 387, o387_17 P) :: (nat_lit 389, o389_17 P) :: r
noncomputable def hK_17 (P : Params) (r : List (Addr × Obj)) : List (Addr × Obj) := (nat_lit 390, o390_17 P) :: (nat_lit 391, o391_18 P) :: (nat_lit 393, o393_18 P) :: (nat_lit 394, o394_18 P) :: (nat_lit 396, o396_18 P) :: (nat_lit 397, o397_18 P) :: (nat_lit 398, o398_18 P) :: (nat_lit 400, o400_18 P) :: (nat_lit 401, o401_18 P) :: (nat_lit 403, o403_18 P) :: (nat_lit 404, o404_18 P) :: (nat_lit 405, o405_18 P) :: r
noncomputable def hK_18 (P : Params) (r : List (Addr × Obj)) : List (Addr × Obj) := (nat_lit 407, o407_18 P) :: (nat_lit 408, o408_18 P) :: (nat_lit 410, o410_18 P) :: (nat_lit 411, o411_18 P) :: (nat_lit 419, o419_18 P) :: (nat_lit 421, o421_18 P) :: (nat_lit 422, o422_18 P) :: (nat_lit 424, o424_18 P) :: (nat_lit 425, o425_18 P) :: (nat_lit 426, o426_18 P) :: (nat_lit 428, o428_18 P) :: (nat_lit 429, o429_18 P) :: r
noncomputable def hK_19 (P : Params) (r : List (Addr × Obj)) : List (Addr × Obj) := (nat_lit 431, o431_18 P) :: (nat_lit 432, o432_18 P) :: (nat_lit 433, o433_18 P) :: (nat_lit 435, o435_18 P) :: (nat_lit 436, o436_18 P) :: (nat_lit 438, o438_18 P) :: (nat_lit 439, o439_18 P) :: (nat_lit 440, o440_18 P) :: (nat_lit 442, o442_18 P) :: (nat_lit 443, o443_18 P) :: (nat_lit 445, o445_18 P) :: (nat_lit 446, o446_18 P) :: r
noncomputable def hK0 (P : Params) : List (Addr × Obj) := (hK_0 P (hK_1 P (hK_2 P (hK_3 P (hK_4 P (hK_5 P (hK_6 P (hK_7 P (hK_8 P (hK_9 P (hK_10 P (hK_11 P (hK_12 P (hK_13 P (hK_14 P (hK_15 P (hK_16 P (hK_17 P (hK_18 P (hK_19 P []))))))))))))))))))))
noncomputable def hK (P : Params) : Frag := (nat_lit 2, PySem.W.boot_o_2 P) :: (nat_lit 3, o3_18 P) :: (nat_lit 15, o15_1 P) :: (nat_lit 17, o17_1 P) :: (nat_lit 18, o18_1 P) :: (nat_lit 20, o20_1 P) :: (nat_lit 21, o21_1 P) :: (nat_lit 22, o22_1 P) :: (nat_lit 29, o29_1 P) :: (nat_lit 31, o31_1 P) :: (nat_lit 32, o32_1 P) :: (nat_lit 34, o34_1 P) :: (nat_lit 35, o35_1 P) :: (nat_lit 36, o36_1 P) :: (nat_lit 37, o37_1 P) :: (nat_lit 38, o38_15 P) :: (nat_lit 39, o39_1 P) :: (nat_lit 42, o42_2 P) :: (nat_lit 49, o49_2 P) :: (nat_lit 51, o51_2 P) :: (nat_lit 52, o52_2 P) :: (nat_lit 54, o54_2 P) :: (nat_lit 55, o55_2 P) :: (nat_lit 56, o56_2 P) :: (nat_lit 57, o57_2 P) :: (nat_lit 58, o58_2 P) :: (nat_lit 61, o61_3 P) :: (nat_lit 68, o68_3 P) :: (nat_lit 70, o70_3 P) :: (nat_lit 71, o71_3 P) :: (nat_lit 73, o73_3 P) :: (nat_lit 74, o74_3 P) :: (nat_lit 75, o75_3 P) :: (nat_lit 76, o76_3 P) :: (nat_lit 77, o77_3 P) :: (nat_lit 80, o80_4 P) :: (nat_lit 87, o87_4 P) :: (nat_lit 89, o89_4 P) :: (nat_lit 90, o90_4 P) :: (nat_lit 92, o92_4 P) :: (nat_lit 93, o93_4 P) :: (nat_lit 94, o94_4 P) :: (nat_lit 95, o95_4 P) :: (nat_lit 96, o96_4 P) :: (nat_lit 99, o99_5 P) :: (nat_lit 106, o106_5 P) :: (nat_lit 108, o108_5 P) :: (nat_lit 109, o109_5 P) :: (nat_lit 111, o111_5 P) :: (nat_lit 112, o112_5 P) :: (nat_lit 113, o113_5 P) :: (nat_lit 114, o114_5 P) :: (nat_lit 115, o115_5 P) :: (nat_lit 118, o118_6 P) :: (nat_lit 125, o125_6 P) :: (nat_lit 127, o127_6 P) :: (nat_lit 128, o128_6 P) :: (nat_lit 130, o130_6 P) :: (nat_lit 131, o131_6 P) :: (nat_lit 132, o132_6 P) :: (nat_lit 133, o133_6 P) :: (nat_lit 134, o134_6 P) :: (nat_lit 137, o137_7 P) :: (nat_lit 144, o144_7 P) :: (nat_lit 146, o146_7 P) :: (nat_lit 147, o147_7 P) :: (nat_lit 149, o149_7 P) :: (nat_lit 150, o150_7 P) :: (nat_lit 151, o151_7 P) :: (nat_lit 152, o152_7 P) :: (nat_lit 153, o153_7 P) :: (nat_lit 156, o156_8 P) :: (nat_lit 163, o163_8 P) :: (nat_lit 165, o165_8 P) :: (nat_lit 166, o166_8 P) :: (nat_lit 168, o168_8 P) :: (nat_lit 169, o169_8 P) :: (nat_lit 170, o170_8 P) :: (nat_lit 171, o171_8 P) :: (nat_lit 172, o172_8 P) :: (nat_lit 175, o175_9 P) :: (nat_lit 182, o182_9 P) :: (nat_lit 184, o184_9 P) :: (nat_lit 185, o185_9 P) :: (nat_lit 187, o187_9 P) :: (nat_lit 188, o188_9 P) :: (nat_lit 189, o189_9 P) :: (nat_lit 190, o190_9 P) :: (nat_lit 191, o191_9 P) :: (nat_lit 194, o194_10 P) :: (nat_lit 201, o201_10 P) :: (nat_lit 203, o203_10 P) :: (nat_lit 204, o204_10 P) :: (nat_lit 206, o206_10 P) :: (nat_lit 207, o207_10 P) :: (nat_lit 208, o208_10 P) :: (nat_lit 209, o209_10 P) :: (nat_lit 210, o210_10 P) :: (nat_lit 213, o213_11 P) :: (nat_lit 220, o220_11 P) :: (nat_lit 222, o222_11 P) :: (nat_lit 223, o223_11 P) :: (nat_lit 225, o225_11 P) :: (nat_lit 226, o226_11 P) :: (nat_lit 227, o227_11 P) :: (nat_lit 228, o228_11 P) :: (nat_lit 229, o229_11 P) :: (nat_lit 232, o232_12 P) :: (nat_lit 239, o239_12 P) :: (nat_lit 241, o241_12 P) :: (nat_lit 242, o242_12 P) :: (nat_lit 244, o244_12 P) :: (nat_lit 245, o245_12 P) :: (nat_lit 246, o246_12 P) :: (nat_lit 247, o247_12 P) :: (nat_lit 248, o248_12 P) :: (nat_lit 251, o251_13 P) :: (nat_lit 258, o258_13 P) :: (nat_lit 260, o260_13 P) :: (nat_lit 261, o261_13 P) :: (nat_lit 263, o263_13 P) :: (nat_lit 264, o264_13 P) :: (nat_lit 265, o265_13 P) :: (nat_lit 266, o266_13 P) :: (nat_lit 267, o267_13 P) :: (nat_lit 270, o270_14 P) :: (nat_lit 277, o277_14 P) :: (nat_lit 279, o279_14 P) :: (nat_lit 280, o280_14 P) :: (nat_lit 282, o282_14 P) :: (nat_lit 283, o283_14 P) :: (nat_lit 284, o284_14 P) :: (nat_lit 285, o285_14 P) :: (nat_lit 286, o286_14 P) :: (nat_lit 289, o289_15 P) :: (nat_lit 296, o296_15 P) :: (nat_lit 298, o298_15 P) :: (nat_lit 299, o299_15 P) :: (nat_lit 301, o301_15 P) :: (nat_lit 302, o302_15 P) :: (nat_lit 303, o303_15 P) :: (nat_lit 304, o304_15 P) :: (nat_lit 305, o305_15 P) :: (nat_lit 308, o308_16 P) :: (nat_lit 309, o309_16 P) :: (nat_lit 310, o310_16 P) :: (nat_lit 311, o311_16 P) :: (nat_lit 312, o312_16 P) :: (nat_lit 313, o313_16 P) :: (nat_lit 314, o314_16 P) :: (nat_lit 315, o315_16 P) :: (nat_lit 316, o316_16 P) :: (nat_lit 317, o317_16 P) :: (nat_lit 318, o318_16 P) :: (nat_lit 319, o319_16 P) :: (nat_lit 320, o320_16 P) :: (nat_lit 321, o321_16 P) :: (nat_lit 322, o322_16 P) :: (nat_lit 323, o323_16 P) :: (nat_lit 324, o324_16 P) :: (nat_lit 325, o325_16 P) :: (nat_lit 327, o327_16 P) :: (nat_lit 328, o328_17 P) :: (nat_lit 329, o329_17 P) :: (nat_lit 331, o331_17 P) :: (nat_lit 332, o332_17 P) :: (nat_lit 334, o334_17 P) :: (nat_lit 335, o335_17 P) :: (nat_lit 336, o336_17 P) :: (nat_lit 339, o339_17 P) :: (nat_lit 340, o340_17 P) :: (nat_lit 341, o341_17 P) :: (nat_lit 343, o343_17 P) :: (nat_lit 344, o344_17 P) :: (nat_lit 346, o346_17 P) :: (nat_lit 347, o347_17 P) :: (nat_lit 348, o348_17 P) :: (nat_lit 351, o351_17 P) :: (nat_lit 352, o352_17 P) :: (nat_lit 353, o353_17 P) :: (nat_lit 356, o356_17 P) :: (nat_lit 357, o357_17 P) :: (nat_lit 358, o358_17 P) :: (nat_lit 360, o360_17 P) :: (nat_lit 361, o361_17 P) :: (nat_lit 363, o363_17 P) :: (nat_lit 364, o364_17 P) :: (nat_lit 365, o365_17 P) :: (nat_lit 367, o367_17 P) :: (nat_lit 368, o368_17 P) :: (nat_lit 370, o370_17 P) :: (nat_lit 371, o371_17 P) :: (nat_lit 372, o372_17 P) :: (nat_lit 375, o375_17 P) :: (nat_lit 376, o376_17 P) :: (nat_lit 377, o377_17 P) :: (nat_lit 379, o379_17 P) :: (nat_lit 380, o380_17 P) :: (nat_lit 382, o382_17 P) :: (nat_lit 383, o383_17 P) :: (nat_lit 384, o384_17 P) :: (nat_lit 386, o386_17 P) :: (nat_lit 387, o387_17 P) :: (nat_lit 389, o389_17 P) :: (nat_lit 390, o390_17 P) :: (nat_lit 391, o391_18 P) :: (nat_lit 393, o393_18 P) :: (nat_lit 394, o394_18 P) :: (nat_lit 396, o396_18 P) :: (nat_lit 397, o397_18 P) :: (nat_lit 398, o398_18 P) :: (nat_lit 400, o400_18 P) :: (nat_lit 401, o401_18 P) :: (nat_lit 403, o403_18 P) :: (nat_lit 404, o404_18 P) :: (nat_lit 405, o405_18 P) :: (nat_lit 407, o407_18 P) :: (nat_lit 408, o408_18 P) :: (nat_lit 410, o410_18 P) :: (nat_lit 411, o411_18 P) :: (nat_lit 419, o419_18 P) :: (nat_lit 421, o421_18 P) :: (nat_lit 422, o422_18 P) :: (nat_lit 424, o424_18 P) :: (nat_lit 425, o425_18 P) :: (nat_lit 426, o426_18 P) :: (nat_lit 428, o428_18 P) :: (nat_lit 429, o429_18 P) :: (nat_lit 431, o431_18 P) :: (nat_lit 432, o432_18 P) :: (nat_lit 433, o433_18 P) :: (nat_lit 435, o435_18 P) :: (nat_lit 436, o436_18 P) :: (nat_lit 438, o438_18 P) :: (nat_lit 439, o439_18 P) :: (nat_lit 440, o440_18 P) :: (nat_lit 442, o442_18 P) :: (nat_lit 443, o443_18 P) :: (nat_lit 445, o445_18 P) :: (nat_lit 446, o446_18 P) :: []
noncomputable def hA : List Addr := [nat_lit 2, nat_lit 3, nat_lit 15, nat_lit 17, nat_lit 18, nat_lit 20, nat_lit 21, nat_lit 22, nat_lit 29, nat_lit 31, nat_lit 32, nat_lit 34, nat_lit 35, nat_lit 36, nat_lit 37, nat_lit 38, nat_lit 39, nat_lit 42, nat_lit 49, nat_lit 51, nat_lit 52, nat_lit 54, nat_lit 55, nat_lit 56, nat_lit 57, nat_lit 58, nat_lit 61, nat_lit 68, nat_lit 70, nat_lit 71, nat_lit 73, nat_lit 74, nat_lit 75, nat_lit 76, nat_lit 77, nat_lit 80, nat_lit 87, nat_lit 89, nat_lit 90, nat_lit 92, nat_lit 93, nat_lit 94, nat_lit 95, nat_lit 96, nat_lit 99, nat_lit 106, nat_lit 108, nat_lit 109, nat_lit 111, nat_lit 112, nat_lit 113, nat_lit 114, nat_lit 115, nat_lit 118, nat_lit 125, nat_lit 127, nat_lit 128, nat_lit 130, nat_lit 131, nat_lit 132, nat_lit 133, nat_lit 134, nat_lit 137, nat_lit 144, nat_lit 146, nat_lit 147, nat_lit 149, nat_lit 150, nat_lit 151, nat_lit 152, nat_lit 153, nat_lit 156, nat_lit 163, nat_lit 165, nat_lit 166, nat_lit 168, nat_lit 169, nat_lit 170, nat_lit 171, nat_lit 172, nat_lit 175, nat_lit 182, nat_lit 184, nat_lit 185, nat_lit 187, nat_lit 188, nat_lit 189, nat_lit 190, nat_lit 191, nat_lit 194, nat_lit 201, nat_lit 203, nat_lit 204, nat_lit 206, nat_lit 207, nat_lit 208, nat_lit 209, nat_lit 210, nat_lit 213, nat_lit 220, nat_lit 222, nat_lit 223, nat_lit 225, nat_lit 226, nat_lit 227, nat_lit 228, nat_lit 229, nat_lit 232, nat_lit 239, nat_lit 241, nat_lit 242, nat_lit 244, nat_lit 245, nat_lit 246, nat_lit 247, nat_lit 248, nat_lit 251, nat_lit 258, nat_lit 260, nat_lit 261, nat_lit 263, nat_lit 264, nat_lit 265, nat_lit 266, nat_lit 267, nat_lit 270, nat_lit 277, nat_lit 279, nat_lit 280, nat_lit 282, nat_lit 283, nat_lit 284, nat_lit 285, nat_lit 286, nat_lit 289, nat_lit 296, nat_lit 298, nat_lit 299, nat_lit 301, nat_lit 302, nat_lit 303, nat_lit 304, nat_lit 305, nat_lit 308, nat_lit 309, nat_lit 310, nat_lit 311, nat_lit 312, nat_lit 313, nat_lit 314, nat_lit 315, nat_lit 316, nat_lit 317, nat_lit 318, nat_lit 319, nat_lit 320, nat_lit 321, nat_lit 322, nat_lit 323, nat_lit 324, nat_lit 325, nat_lit 327, nat_lit 328, nat_lit 329, nat_lit 331, nat_lit 332, nat_lit 334, nat_lit 335, nat_lit 336, nat_lit 339, nat_lit 340, nat_lit 341, nat_lit 343, nat_lit 344, nat_lit 346, nat_lit 347, nat_lit 348, nat_lit 351, nat_lit 352, nat_lit 353, nat_lit 356, nat_lit 357, nat_lit 358, nat_lit 360, nat_lit 361, nat_lit 363, nat_lit 364, nat_lit 365, nat_lit 367, nat_lit 368, nat_lit 370, nat_lit 371, nat_lit 372, nat_lit 375, nat_lit 376, nat_lit 377, nat_lit 379, nat_lit 380, nat_lit 382, nat_lit 383, nat_lit 384, nat_lit 386, nat_lit 387, nat_lit 389, nat_lit 390, nat_lit 391, nat_lit 393, nat_lit 394, nat_lit 396, nat_lit 397, nat_lit 398, nat_lit 400, nat_lit 401, nat_lit 403, nat_lit 404, nat_lit 405, nat_lit 407, nat_lit 408, nat_lit 410, nat_lit 411, nat_lit 419, nat_lit 421, nat_lit 422, nat_lit 424, nat_lit 425, nat_lit 426, nat_lit 428, nat_lit 429, nat_lit 431, nat_lit 432, nat_lit 433, nat_lit 435, nat_lit 436, nat_lit 438, nat_lit 439, nat_lit 440, nat_lit 442, nat_lit 443, nat_lit 445, nat_lit 446]
noncomputable def hX (s : Shared) : Bool := xlAt hq [] s && recOk [] s
noncomputable def hTs : List Addr := [nat_lit 378]
noncomputable abbrev hH : Hook := kmHook hK [nat_lit 2, nat_lit 3, nat_lit 15, nat_lit 17, nat_lit 18, nat_lit 20, nat_lit 21, nat_lit 22, nat_lit 29, nat_lit 31, nat_lit 32, nat_lit 34, nat_lit 35, nat_lit 36, nat_lit 37, nat_lit 38, nat_lit 39, nat_lit 42, nat_lit 49, nat_lit 51, nat_lit 52, nat_lit 54, nat_lit 55, nat_lit 56, nat_lit 57, nat_lit 58, nat_lit 61, nat_lit 68, nat_lit 70, nat_lit 71, nat_lit 73, nat_lit 74, nat_lit 75, nat_lit 76, nat_lit 77, nat_lit 80, nat_lit 87, nat_lit 89, nat_lit 90, nat_lit 92, nat_lit 93, nat_lit 94, nat_lit 95, nat_lit 96, nat_lit 99, nat_lit 106, nat_lit 108, nat_lit 109, nat_lit 111, nat_lit 112, nat_lit 113, nat_lit 114, nat_lit 115, nat_lit 118, nat_lit 125, nat_lit 127, nat_lit 128, nat_lit 130, nat_lit 131, nat_lit 132, nat_lit 133, nat_lit 134, nat_lit 137, nat_lit 144, nat_lit 146, nat_lit 147, nat_lit 149, nat_lit 150, nat_lit 151, nat_lit 152, nat_lit 153, nat_lit 156, nat_lit 163, nat_lit 165, nat_lit 166, nat_lit 168, nat_lit 169, nat_lit 170, nat_lit 171, nat_lit 172, nat_lit 175, nat_lit 182, nat_lit 184, nat_lit 185, nat_lit 187, nat_lit 188, nat_lit 189, nat_lit 190, nat_lit 191, nat_lit 194, nat_lit 201, nat_lit 203, nat_lit 204, nat_lit 206, nat_lit 207, nat_lit 208, nat_lit 209, nat_lit 210, nat_lit 213, nat_lit 220, nat_lit 222, nat_lit 223, nat_lit 225, nat_lit 226, nat_lit 227, nat_lit 228, nat_lit 229, nat_lit 232, nat_lit 239, nat_lit 241, nat_lit 242, nat_lit 244, nat_lit 245, nat_lit 246, nat_lit 247, nat_lit 248, nat_lit 251, nat_lit 258, nat_lit 260, nat_lit 261, nat_lit 263, nat_lit 264, nat_lit 265, nat_lit 266, nat_lit 267, nat_lit 270, nat_lit 277, nat_lit 279, nat_lit 280, nat_lit 282, nat_lit 283, nat_lit 284, nat_lit 285, nat_lit 286, nat_lit 289, nat_lit 296, nat_lit 298, nat_lit 299, nat_lit 301, nat_lit 302, nat_lit 303, nat_lit 304, nat_lit 305, nat_lit 308, nat_lit 309, nat_lit 310, nat_lit 311, nat_lit 312, nat_lit 313, nat_lit 314, nat_lit 315, nat_lit 316, nat_lit 317, nat_lit 318, nat_lit 319, nat_lit 320, nat_lit 321, nat_lit 322, nat_lit 323, nat_lit 324, nat_lit 325, nat_lit 327, nat_lit 328, nat_lit 329, nat_lit 331, nat_lit 332, nat_lit 334, nat_lit 335, nat_lit 336, nat_lit 339, nat_lit 340, nat_lit 341, nat_lit 343, nat_lit 344, nat_lit 346, nat_lit 347, nat_lit 348, nat_lit 351, nat_lit 352, nat_lit 353, nat_lit 356, nat_lit 357, nat_lit 358, nat_lit 360, nat_lit 361, nat_lit 363, nat_lit 364, nat_lit 365, nat_lit 367, nat_lit 368, nat_lit 370, nat_lit 371, nat_lit 372, nat_lit 375, nat_lit 376, nat_lit 377, nat_lit 379, nat_lit 380, nat_lit 382, nat_lit 383, nat_lit 384, nat_lit 386, nat_lit 387, nat_lit 389, nat_lit 390, nat_lit 391, nat_lit 393, nat_lit 394, nat_lit 396, nat_lit 397, nat_lit 398, nat_lit 400, nat_lit 401, nat_lit 403, nat_lit 404, nat_lit 405, nat_lit 407, nat_lit 408, nat_lit 410, nat_lit 411, nat_lit 419, nat_lit 421, nat_lit 422, nat_lit 424, nat_lit 425, nat_lit 426, nat_lit 428, nat_lit 429, nat_lit 431, nat_lit 432, nat_lit 433, nat_lit 435, nat_lit 436, nat_lit 438, nat_lit 439, nat_lit 440, nat_lit 442, nat_lit 443, nat_lit 445, nat_lit 446] (fun _ => by kernel_rfl) [nat_lit 378]
noncomputable def qs (w : World) : (OsState → (Bool × Nat × Option Value)) × (OsState → (Bool × Nat × Option Value)) := (fun os => ((boot_heap w.params).isNs mainGlobals && (Array.mk [] : Array GenState).size == 0, (boot_heap w.params).objs.size, (boot_heap w.params).nsMap mainGlobals "__annotations__"), fun os => (true, (nat_lit 11), (some (.ref (nat_lit 6)))))
theorem qs_eq : HD.sz (nat_lit 11) (some (.ref (nat_lit 6))) = qs := by kernel_rfl
name_quick YK40s for qs by qs_eq
theorem is (w : World) : (Fast.YK40s w).1 = (Fast.YK40s w).2 := by kernel_rfl
theorem hs : HD.Ok (HD.sz (nat_lit 11) (some (.ref (nat_lit 6)))) := HD.by1 Fast.YK40s_eq is
noncomputable def qla (w : World) : (OsState → Bool) × (OsState → Bool) := (fun os => (staticsOk (importedModules pw.main.body) (boot_heap w.params) (Hf w.params) && namesBound pw (Hf w.params) && gensDone (Sf w os) && laidKept (boot_heap w.params) (Hf w.params)), fun os => true)
theorem qla_eq : HD.la pw Hf df kf = qla := by kernel_rfl
name_quick YK40la for qla by qla_eq
theorem ila (w : World) : (Fast.YK40la w).1 = (Fast.YK40la w).2 := by kernel_rfl
theorem hla : HD.Ok (HD.la pw Hf df kf) := HD.by1 Fast.YK40la_eq ila
noncomputable def qlb (w : World) := ((fun os : OsState => openSeen hq hl (importedModules pw.main.body) hX true (Sf w os)), (fun _ : OsState => openGood hq hl))
theorem qlb_eq : HD.lb pw hq hl hX Hf df kf = qlb := by kernel_rfl
name_quick YK40lb for qlb by qlb_eq
theorem ilb (w : World) : (Fast.YK40lb w).1 = (Fast.YK40lb w).2 := by kernel_rfl
theorem hlb : HD.Ok (HD.lb pw hq hl hX Hf df kf) := HD.by1 Fast.YK40lb_eq ilb
noncomputable def qlc (w : World) : (OsState → (List (Option Obj) × List (Option Obj))) × (OsState → (List (Option Obj) × List (Option Obj))) := (fun os => (hA.map (Sf w os).heap.get?, hTs.map (Sf w os).heap.get?), fun os => ((hK0 w.params).map fun p => some p.2, hTs.map fun _ => some (tabObj #[])))
theorem qlc_eq : HD.lc hH Hf df kf = qlc := by kernel_rfl
name_quick YK40lc for qlc by qlc_eq
theorem ilc (w : World) : (Fast.YK40lc w).1 = (Fast.YK40lc w).2 := by kernel_rfl
theorem hlc : HD.Ok (HD.lc hH Hf df kf) := HD.by1 Fast.YK40lc_eq ilc
theorem hleft : LeftO pw hq hl hX hH.obs hH.val 9486 := HD.left (by kernel_rfl) (by decide) (fun s => by kernel_rfl) hs hrun (by decide +kernel) hla hlb hlc
end K40
end
open PySem PySem.W PyProof.Rows
set_option maxRecDepth 100000 in
set_option maxHeartbeats 0 in
theorem PySem.Challenge.cw_keeper_k40_variables_holds : PySem.Challenge.rw_keeper_k40_variables.Holds := by
  w_on; o_law
  refine PySem.W.holds_open (q := K40.hq) (loose := K40.hl) (Xt := K40.hX) (XP := PySem.W.XL K40.hq []) (Yf := PySem.W.Hook.obs K40.hH) (Ya := PySem.W.Hook.val K40.hH) (YP := PySem.W.Hook.says K40.hH) (N := 9486) K40.hleft (PySem.W.Hook.of _) (PySem.W.Hook.keeps _) (fun s e => PySem.W.xl_of s (Bool.and_eq_true_iff.mp e).1) PySem.W.XL.keeps (by rfl) (by rfl) (by rfl) (fun s e => PySem.W.recFacts_of (Bool.and_eq_true_iff.mp e).2) (by rfl) (by assumption) (by decide +kernel) ⟨rfl, rfl, rfl, rfl, rfl, by decide +kernel⟩ ?hw ?hc
  case hw => w_witness2
  delta K40.hH
  k_fill
  refine' K40.walk (l := PySem.Challenge.rw_keeper_k40_variables) (c1 := ?qc1) (T1 := ?qT1) rfl rfl (fun w h Y => PySem.W.km_in_of Y) ?h2_1 ?h3_1 ?h4_1  ?F
  case F =>
    intro w mg fa h KX G hmg
    have h1_1 : PySem.W.tabIn (L2.KOf KX) "raised" = some (?qc1, ?qT1) := by
      dsimp only [L2.KOf]
      exact rfl
    have h2_1 : PySem.W.codeHdIn (L2.KOf KX) ?qc1 ?qT1 = true := by
      dsimp only [L2.KOf]
      kernel_rfl
    have T : ∃ t, K40.Txt (L2.KOf KX) mg t := by
      dsimp only [L2.KOf]
      refine' K40.txt_mk KX G ?a0 ?l0 ?c0 ?k0 ?a1 ?l1 ?c1 ?k1 ?a2 ?l2 ?c2 ?k2 ?a3 ?l3 ?c3 ?k3 ?a4 ?l4 ?c4 ?k4 ?a5 ?l5 ?c5 ?k5 ?a6 ?l6 ?c6 ?k6 ?a7 ?l7 ?c7 ?k7 ?a8 ?l8 ?c8 ?k8 ?a9 ?l9 ?c9 ?k9 ?a10 ?l10 ?c10 ?k10 ?a11 ?l11 ?c11 ?k11 ?a12 ?l12 ?c12 ?k12 ?a13 ?l13 ?c13 ?k13 ?a14 ?l14 ?c14 ?k14 ?a15 ?l15 ?c15 ?k15 ?a16 ?l16 ?c16 ?k16 ?z_ValueError ?z_bool ?z_int ?z_isinstance ?z_len ?z_list ?z_max ?z_range ?z_tuple ?z_zip ?g_MOST_KNOTS ?g_MOST_DEEP ?g_MOST_VARIABLE ?g_KIDS_DUE ?lk_KIDS_DUE ?sy_KIDS_DUE ?ks_KIDS_DUE ?rf_KIDS_DUE ?u0_KIDS_DUE ?v0_KIDS_DUE ?u1_KIDS_DUE ?v1_KIDS_DUE ?u2_KIDS_DUE ?v2_KIDS_DUE ?u3_KIDS_DUE ?v3_KIDS_DUE ?u4_KIDS_DUE ?v4_KIDS_DUE ?u5_KIDS_DUE ?v5_KIDS_DUE ?u6_KIDS_DUE ?v6_KIDS_DUE ?u7_KIDS_DUE ?v7_KIDS_DUE ?u8_KIDS_DUE ?v8_KIDS_DUE ?u9_KIDS_DUE ?v9_KIDS_DUE ?u10_KIDS_DUE ?v10_KIDS_DUE ?u11_KIDS_DUE ?v11_KIDS_DUE ?u12_KIDS_DUE ?v12_KIDS_DUE ?u13_KIDS_DUE ?v13_KIDS_DUE ?u14_KIDS_DUE ?v14_KIDS_DUE ?u15_KIDS_DUE ?v15_KIDS_DUE ?u16_KIDS_DUE ?v16_KIDS_DUE ?u17_KIDS_DUE ?v17_KIDS_DUE ?g_BINDER_OVER ?lk_BINDER_OVER ?sy_BINDER_OVER ?vs_BINDER_OVER ?g_KeeperError ?g_Great ?g_NoPlace ?g_NoStep ?g_Dry ?g_NoVariable ?g_NoName ?g_NotAll ?g_NotSome ?g_NotSame ?g_Unlike ?g_NoText ?g_NoWord ?g_TwiceTold ?g_NotClosed ?x_gr ?x_nv ?x_ke ?x_cg1 ?x_cg2 ?x_cg3 ?x_cg4 ?x_cg5 ?x_cg6 ?x_cn1 ?x_cn2 ?x_cn3 ?x_cn4 ?x_cn5 ?x_cn6 ?x_s1 ?x_s2 ?x_s3 ?x_vg ?x_vn ?x_g0 ?x_n0 ?x_g1 ?x_n1 ?x_g2 ?x_n2 ?x_g3 ?x_n3 ?x_g4 ?x_n4 ?x_g5 ?x_n5 ?x_g6 ?x_n6 ?x_g7 ?x_n7 ?x_g8 ?x_n8 ?x_g9 ?x_n9 ?x_g10 ?x_n10 ?x_g11 ?x_n11 ?x_g12 ?x_n12 ?x_g13 ?x_n13
      (case a0 => k_is)
      (case l0 => k_is)
      (case c0 => k_is)
      (case k0 => k_is)
      (case a1 => k_is)
      (case l1 => k_is)
      (case c1 => k_is)
      (case k1 => k_is)
      (case a2 => k_is)
      (case l2 => k_is)
      (case c2 => k_is)
      (case k2 => k_is)
      (case a3 => k_is)
      (case l3 => k_is)
      (case c3 => k_is)
      (case k3 => k_is)
      (case a4 => k_is)
      (case l4 => k_is)
      (case c4 => k_is)
      (case k4 => k_is)
      (case a5 => k_is)
      (case l5 => k_is)
      (case c5 => k_is)
      (case k5 => k_is)
      (case a6 => k_is)
      (case l6 => k_is)
      (case c6 => k_is)
      (case k6 => k_is)
      (case a7 => k_is)
      (case l7 => k_is)
      (case c7 => k_is)
      (case k7 => k_is)
      (case a8 => k_is)
      (case l8 => k_is)
      (case c8 => k_is)
      (case k8 => k_is)
      (case a9 => k_is)
      (case l9 => k_is)
      (case c9 => k_is)
      (case k9 => k_is)
      (case a10 => k_is)
      (case l10 => k_is)
      (case c10 => k_is)
      (case k10 => k_is)
      (case a11 => k_is)
      (case l11 => k_is)
      (case c11 => k_is)
      (case k11 => k_is)
      (case a12 => k_is)
      (case l12 => k_is)
      (case c12 => k_is)
      (case k12 => k_is)
      (case a13 => k_is)
      (case l13 => k_is)
      (case c13 => k_is)
      (case k13 => k_is)
      (case a14 => k_is)
      (case l14 => k_is)
      (case c14 => k_is)
      (case k14 => k_is)
      (case a15 => k_is)
      (case l15 => k_is)
      (case c15 => k_is)
      (case k15 => k_is)
      (case a16 => k_is)
      (case l16 => k_is)
      (case c16 => k_is)
      (case k16 => k_is)
      (case z_ValueError => k_is)
      (case z_bool => k_is)
      (case z_int => k_is)
      (case z_isinstance => k_is)
      (case z_len => k_is)
      (case z_list => k_is)
      (case z_max => k_is)
      (case z_range => k_is)
      (case z_tuple => k_is)
      (case z_zip => k_is)
      (case g_MOST_KNOTS => k_is)
      (case g_MOST_DEEP => k_is)
      (case g_MOST_VARIABLE => k_is)
      (case g_KIDS_DUE => k_is)
      (case lk_KIDS_DUE => k_is)
      (case sy_KIDS_DUE => decide +kernel)
      (case ks_KIDS_DUE => kernel_rfl)
      (case rf_KIDS_DUE => rfl)
      (case u0_KIDS_DUE => k_is)
      (case v0_KIDS_DUE => decide +kernel)
      (case u1_KIDS_DUE => k_is)
      (case v1_KIDS_DUE => decide +kernel)
      (case u2_KIDS_DUE => k_is)
      (case v2_KIDS_DUE => decide +kernel)
      (case u3_KIDS_DUE => k_is)
      (case v3_KIDS_DUE => decide +kernel)
      (case u4_KIDS_DUE => k_is)
      (case v4_KIDS_DUE => decide +kernel)
      (case u5_KIDS_DUE => k_is)
      (case v5_KIDS_DUE => decide +kernel)
      (case u6_KIDS_DUE => k_is)
      (case v6_KIDS_DUE => decide +kernel)
      (case u7_KIDS_DUE => k_is)
      (case v7_KIDS_DUE => decide +kernel)
      (case u8_KIDS_DUE => k_is)
      (case v8_KIDS_DUE => decide +kernel)
      (case u9_KIDS_DUE => k_is)
      (case v9_KIDS_DUE => decide +kernel)
      (case u10_KIDS_DUE => k_is)
      (case v10_KIDS_DUE => decide +kernel)
      (case u11_KIDS_DUE => k_is)
      (case v11_KIDS_DUE => decide +kernel)
      (case u12_KIDS_DUE => k_is)
      (case v12_KIDS_DUE => decide +kernel)
      (case u13_KIDS_DUE => k_is)
      (case v13_KIDS_DUE => decide +kernel)
      (case u14_KIDS_DUE => k_is)
      (case v14_KIDS_DUE => decide +kernel)
      (case u15_KIDS_DUE => k_is)
      (case v15_KIDS_DUE => decide +kernel)
      (case u16_KIDS_DUE => k_is)
      (case v16_KIDS_DUE => decide +kernel)
      (case u17_KIDS_DUE => k_is)
      (case v17_KIDS_DUE => decide +kernel)
      (case g_BINDER_OVER => k_is)
      (case lk_BINDER_OVER => k_is)
      (case sy_BINDER_OVER => decide +kernel)
      (case vs_BINDER_OVER => kernel_rfl)
      (case g_KeeperError => k_is)
      (case g_Great => k_is)
      (case g_NoPlace => k_is)
      (case g_NoStep => k_is)
      (case g_Dry => k_is)
      (case g_NoVariable => k_is)
      (case g_NoName => k_is)
      (case g_NotAll => k_is)
      (case g_NotSome => k_is)
      (case g_NotSame => k_is)
      (case g_Unlike => k_is)
      (case g_NoText => k_is)
      (case g_NoWord => k_is)
      (case g_TwiceTold => k_is)
      (case g_NotClosed => k_is)
      (case x_gr => kernel_rfl)
      (case x_nv => kernel_rfl)
      (case x_ke => kernel_rfl)
      (case x_cg1 => k_is)
      (case x_cg2 => k_is)
      (case x_cg3 => k_is)
      (case x_cg4 => k_is)
      (case x_cg5 => k_is)
      (case x_cg6 => kernel_rfl)
      (case x_cn1 => k_is)
      (case x_cn2 => k_is)
      (case x_cn3 => k_is)
      (case x_cn4 => k_is)
      (case x_cn5 => k_is)
      (case x_cn6 => kernel_rfl)
      (case x_s1 => k_is)
      (case x_s2 => k_is)
      (case x_s3 => k_is)
      (case x_vg => kernel_rfl)
      (case x_vn => kernel_rfl)
      (case x_g0 => kernel_rfl)
      (case x_n0 => kernel_rfl)
      (case x_g1 => kernel_rfl)
      (case x_n1 => kernel_rfl)
      (case x_g2 => kernel_rfl)
      (case x_n2 => kernel_rfl)
      (case x_g3 => kernel_rfl)
      (case x_n3 => kernel_rfl)
      (case x_g4 => kernel_rfl)
      (case x_n4 => kernel_rfl)
      (case x_g5 => kernel_rfl)
      (case x_n5 => kernel_rfl)
      (case x_g6 => kernel_rfl)
      (case x_n6 => kernel_rfl)
      (case x_g7 => kernel_rfl)
      (case x_n7 => kernel_rfl)
      (case x_g8 => kernel_rfl)
      (case x_n8 => kernel_rfl)
      (case x_g9 => kernel_rfl)
      (case x_n9 => kernel_rfl)
      (case x_g10 => kernel_rfl)
      (case x_n10 => kernel_rfl)
      (case x_g11 => kernel_rfl)
      (case x_n11 => kernel_rfl)
      (case x_g12 => kernel_rfl)
      (case x_n12 => kernel_rfl)
      (case x_g13 => kernel_rfl)
      (case x_n13 => kernel_rfl)
    obtain ⟨t, T⟩ := T
    exact K40.fin KX G h1_1 h2_1 T hmg
  case h2_1 => intro w; kernel_rfl
  case h3_1 => intro w; kernel_rfl
  case h4_1 => exact fun w h Y => PySem.W.km_tabs_of Y _ (by simp)
