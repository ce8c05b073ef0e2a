import PyProof.Rows.All
import Wide.All
import OpenK.AllK
import Wide.FinOn
import Lean
import PyProof.EqAt
import PyProof.EqKinds
import PyProof.TupleCall
import PyProof.ZipIter
import PyProof.Draws
import PyProof.TupleIter
import PySem.Value
import PyProof.NeKinds
import PyProof.ExcClass2
import PyProof.StationsW
import OpenK.KOwn
import KE.KIsAll
import PyProof.RulesAs
import PyProof.NsDelKeeps
import PyProof.PassesOwn
import PyProof.ExcArgsOwn
import PyProof.IsiH_list
import PyProof.EnumMake
import PyProof.EnumFor
import PyProof.WalksEnum
import PyProof.Rows.EnumRows
import PyProof.SumWalk
import PyProof.StrCalls
import PyProof.Rows.StrJoin2
import PyProof.WalkInts
import KE.KDictOf
import KE.KEqDict
import PyProof.EqLayable
import PyProof.P3Eq
import PyProof.MeetsIn
import KE.KNest
import KE.KNestM
import PyProof.StrCalls6
import PyProof.StrLaws
import PyProof.StrLawsIn
import PyProof.StrLawsChain
import PyProof.MeetsStr2
import PyProof.StrOps2
import PyProof.CallStr
import KE.KIntText
import KE.KRevIter
import PyProof.Rows.StrInSeq3
import PyProof.Rows.SeqMore2
import PySem.Challenge.RW_keeper_k23_normal
set_option Elab.async false
set_option linter.all false
set_option maxRecDepth 100000
set_option bootstrap.genMatcherCode false
set_option genSizeOf false
set_option genSizeOfSpec false
set_option maxHeartbeats 8000000
open PySem renaming wpAny_bind->aA,wpAny_pure->bB,wpAny_field->fg,wpAny_holding->jU,wpAny_mono->gm,wpAny_call_entry->qO,wpAny_Call_Name_kw->zT,wpAny_newObj_type->zP
open PySem.Heap renaming get?_push_of_some->b_,lt_size->bT,get?_push_size->gT,get?_update_other->kT,get?_update_self->CG
open List renaming length_cons->cF,mem_cons_of_mem->dW,size_toArray->dq,mem_cons_self->d4,getElem?_eq_getElem->gM,length_map->dI,length_nil->e_,map_cons->d7,mem_append_right->j3,length_append->iJ,not_mem_nil->jf,mem_cons->gF,mem_append_left->qP,append_nil->kS,lookup_cons->n9,getElem?_append_left->Fx,mem_of_getElem?->zK,map_append->pG,filterMap_cons->CC,length_singleton->EY
open Bool renaming and_eq_true->cY,false_ne_true->fQ
open Nat renaming le_refl->bK,le_trans->c8,lt_of_lt_of_le->gK,ne_of_lt->eg,zero_le->eB
noncomputable section
section
namespace L2
open PySem PySem.Spec PyProof.Rows
theorem cN{n:Nat}(h:Nat.ble n 16777216=true):n<=sizeLine:=c8 (Nat.le_of_ble_eq_true h) (by decide)
def HB(base:Heap)(A:Around):Prop:=A.handled=none\/∃a oe vs,A.handled=some (.ref a)/\base.get? a=some oe/\oe.data= .fields vs/\vs[2]?=some .none
def HBp(base:Heap)(pn:List (Addr×Obj))(A:Around):Prop:=A.handled=none\/∃a oe vs,A.handled=some (.ref a)/\(base.get? a=some oe\/(a,oe)∈pn)/\oe.data= .fields vs/\vs[2]?=some .none
theorem HB.toP{base:Heap}{pn:List (Addr×Obj)}{A:Around}(h:HB base A):HBp base pn A:=by
 rcases h with h|⟨a,oe,vs,e1,e2,e3⟩;·exact .inl h
 ·exact .inr ⟨a,oe,vs,e1, .inl e2,e3⟩
theorem D3:entryFor table "proto.unchain"=some Builtin.«proto.unchain»:=entryFor_of_tree (by kernel_rfl)
section
variable{prog:Program}{w:World}{A:Around}{E:Value->Shared->Prop}{s:Shared}{base:Heap}
theorem HB.mono{h h':Heap}(hb:HB h A)(b:∀a o,A.handled=some (.ref a)->h.get? a=some o->h'.get? a=some o):HB h' A:=by
 rcases hb with hb|⟨a,oe,vs,e1,e2,e3⟩;·exact .inl hb
 ·exact .inr ⟨a,oe,vs,e1,b a oe e1 e2,e3⟩
theorem Ef{n a:Addr}{oe:Obj}{vs:Array Value}{Q:Value->Shared->Prop}(b:s.heap.get? a=some oe)(hd:oe.data= .fields vs)(h2:vs[2]?=some .none)(h:Q .none s):wpAny (model prog w) A (runValue (.builtin "proto.unchain" ⟨[.ref n, .ref a, .ref a, .bool false],[]⟩)) Q E s:=by refine wpAny_runValue (codeAny_builtin D3 ?_);show wpAny _ _ (field (.ref a) 2>>=_) _ _ s;refine aA (fg b hd h2 ?_);rw[if_pos (show(Value.none==Value.none)=true by rfl)];exact bB h
theorem kA{f:Type}{Q:f->Shared->Prop}(hb:HB s.heap A)(d:∀h' e,(∀b o,s.heap.get? b=some o->h'.get? b=some o)->(∃o,h'.get? e=some o/\o.cls= .type "StopIteration")->E (.ref e) {s with heap:=h'}):wpAny (model prog w) A (newExc (.type "StopIteration") []>>=λe=>(raiseNew e:Sem f)) Q E s:=by
 refine aA ?_;simp only[newExc,newTuple];refine aA (zP ?_ (by size_fits));refine aA (m:=firstArgMember _ _) (wpAny_of_eq (a:=Value.none) (by first|rfl|(simp only[firstArgMember];rfl)) ?_);refine zP ?_ (by size_fits);simp only[raiseNew];refine aA (wpAny_handled ?_);rcases hb with hb|⟨a,oe,vs,hb,e1,e2,e3⟩;·rw[hb];refine aA (bB (wpAny_throw (d _ _ (λb o e=>b_ _ (b_ _ e)) ⟨_,gT _ rfl,rfl⟩)))
 ·rw[hb];have c:=e1;have lt:=bT c;have ne:a≠(s.heap.push {cls:= .type "tuple",data:= .seq #[]}).objs.size:=by rw[Heap.size_push];exact eg (Nat.lt_succ_of_lt lt)
  dsimp only;rw[if_pos (by simpa using ne)];refine aA (jU (Ef (b_ _ (b_ _ c)) e2 e3 ?_));refine aA ?_;show wpAny (model prog w) A (setField (.ref _) 2 (.ref a)) _ _ _;refine wpAny_setField (gT _ rfl) rfl (by simp;lia) (wpAny_throw (d _ _ (λb o e=>?_) ⟨_,CG _ (gT _ rfl) (Obj.isFreed_of_fields (Obj.data_mapFields rfl _)),Obj.cls_mapFields _ _⟩));rw[kT _ _ ?_];·exact b_ _ (b_ _ e)
  ·have :=bT e;intro z;rw[<-z,Heap.size_push]at this;exact Nat.not_succ_lt_self this
theorem CM{Q:Bool->Shared->Prop}{h':Heap}{e:Addr}(a:∃o,h'.get? e=some o/\o.cls= .type "StopIteration")(h:Q true {s with heap:=h'}):wpAny (model prog w) A (isInstance (.ref e) (.type "StopIteration")) Q E {s with heap:=h'}:=by obtain⟨o,c,hc⟩:=a;exact wpAny_isInstance (T:="StopIteration") (b:=true) ⟨o,c,hc⟩ isSubtype_stop h
theorem HB.upd{it:Addr}{f:Obj->Obj}(hb:HB s.heap A)(b:∀a,A.handled=some (.ref a)->a≠it):HB (s.heap.update it f) A:=hb.mono λa o e1 e2=>(kT _ _ (Ne.symm (b a e1))).trans e2
theorem Bj{it:Addr}{f:Obj->Obj}{h':Heap}(k:∀b o,(s.heap.update it f).get? b=some o->h'.get? b=some o):Heap.ExtBut it s.heap h':=λb o hb e=>k b o ((kT _ _ (Ne.symm hb)).trans e)
theorem k9{it l:Addr}{i:Nat}{items:Array Value}{Q:Option Value->Shared->Prop}(hb:HB s.heap A)(j:∀a,A.handled=some (.ref a)->a≠it)(b:s.heap.IsListIter it l i)(hl:s.heap.IsList l items)(h:items[i]?=none)(d:∀h',Heap.ExtBut it s.heap h'->Q none {s with heap:=h'}):wpAny (model prog w) A (pyNext (.ref it)) Q E s:=by obtain⟨o,c,hc,hd⟩:=id b;obtain⟨n,g,_,m,hdl⟩:=hl;unfold pyNext;refine aA (wpAny_attempt (wpAny_callSpecial?_slot (name:=Str.ofString "__next__") b.typeIs slot_listiter_next (qO slot_listiter_next b.typeIs entry_listiter_next ?_ (args_listiter_next _))));show wpAny (model prog w) _ (field (.ref it) 0>>=_) _ _ s;refine aA (fg c hd (x:= .ref l) rfl ?_);show wpAny (model prog w) _ (if(Value.ref l==Value.none)=true then _ else _) _ _ s;rw[if_neg (show¬(Value.ref l==Value.none)=true from fQ)];show wpAny (model prog w) _ (field (.ref it) 1>>=_) _ _ s;refine aA (fg c hd (x:= .int i 0) rfl ?_);show wpAny (model prog w) _ (seqItems? (.ref l)>>=_) _ _ s;refine aA (wpAny_seqItems g hdl ?_);simp only[Int.toNat_natCast,h];refine aA (wpAny_rule (aA (wpAny_setField c hd (by simp) ?_)));exact kA (A:=A.in1) (hb.upd j) λh' e k f=>aA (CM f (bB (d h' (Bj k))))
theorem next_tuple_end{it l:Addr}{i:Nat}{items:Array Value}{Q:Option Value->Shared->Prop}(hb:HB s.heap A)(j:∀a,A.handled=some (.ref a)->a≠it)(b:s.heap.IsTupleIter it l i)(hl:s.heap.IsTuple l items)(h:items[i]?=none)(d:∀h',Heap.ExtBut it s.heap h'->Q none {s with heap:=h'}):wpAny (model prog w) A (pyNext (.ref it)) Q E s:=by obtain⟨o,c,hc,hd⟩:=id b;obtain⟨n,g,_,m,hdl⟩:=hl;unfold pyNext;refine aA (wpAny_attempt (wpAny_callSpecial?_slot (name:=Str.ofString "__next__") b.typeIs F.slot_tuple_iterator_next (qO F.slot_tuple_iterator_next b.typeIs F.entry_tuple_iterator_next ?_ (F.args_tuple_iterator_next_1 _))));show wpAny (model prog w) _ (field (.ref it) 0>>=_) _ _ s;refine aA (fg c hd (x:= .ref l) rfl ?_);show wpAny (model prog w) _ (if(Value.ref l==Value.none)=true then _ else _) _ _ s;rw[if_neg (show¬(Value.ref l==Value.none)=true from fQ)];show wpAny (model prog w) _ (field (.ref it) 1>>=_) _ _ s;refine aA (fg c hd (x:= .int i 0) rfl ?_);show wpAny (model prog w) _ (seqItems? (.ref l)>>=_) _ _ s;refine aA (wpAny_seqItems g hdl ?_);simp only[Int.toNat_natCast,h];refine aA (wpAny_rule (aA (wpAny_setField c hd (by simp) ?_)));exact kA (A:=A.in1) (hb.upd j) λh' e k f=>aA (CM f (bB (d h' (Bj k))))
theorem xX{it:Addr}{x left step:Int}{Q:Option Value->Shared->Prop}(hb:HB s.heap A)(a:IsRangeIter s.heap it x left step)(hleft:left<=0)(f:∀h',Heap.ExtBut it s.heap h'->Q none {s with heap:=h'}):wpAny (model prog w) A (pyNext (.ref it)) Q E s:=by have c:s.TypeIs (.ref it) "range_iterator":=⟨_,a,rfl⟩;unfold pyNext;refine aA (wpAny_attempt (wpAny_callSpecial?_slot (name:=Str.ofString "__next__") c F.slot_range_iterator_next (qO F.slot_range_iterator_next c F.entry_range_iterator_next ?_ (F.args_range_iterator_next_1 _))));show wpAny (model prog w) _ (field (.ref it) 0>>=_) _ _ s;refine aA (fg a rfl (x:=rawInt x) rfl ?_);show wpAny (model prog w) _ (field (.ref it) 1>>=_) _ _ s;refine aA (fg a rfl (x:=rawInt left) rfl ?_);show wpAny (model prog w) _ (field (.ref it) 2>>=_) _ _ s;refine aA (fg a rfl (x:=rawInt step) rfl ?_);show wpAny (model prog w) _ (if left<=0 then _ else _) _ _ s;rw[if_pos hleft];refine aA (wpAny_rule ?_);refine aA ?_;exact kA (A:=A.in1) hb λh' e k g=>aA (CM g (bB (f h' λb o _ d=>k b o d)))
theorem TL{t:Addr}{items:Array Value}{Q:List Value->Shared->Prop}(hb:HB s.heap A)(ht:s.heap.IsTuple t items)(i:∀h',Heap.ExtBut s.heap.objs.size s.heap h'->Q items.toList {s with heap:=h'}):wpAny (model prog w) A (unpackItems (.ref t) items.size none) Q E s:=by
 have f:t≠s.heap.objs.size:=by obtain⟨o,m,_⟩:=ht;exact eg (bT m)
 have g:∀a,A.handled=some (.ref a)->a≠s.heap.objs.size:=λa c=>by
  rcases hb with hb|⟨q,oe,vs,e1,e2,_⟩;·rw[hb]at c;cases c
  ·rw[e1]at c;cases c;exact eg (bT e2)
 unfold unpackItems;refine aA ?_;unfold notIterableAtAll;refine aA (wpAny_specialOf ht.typeIs F.slot_tuple_iter.lookup (bB ?_));simp only[Bool.false_eq_true,if_false];refine aA (jU (wpAny_pyIter_tuple ht ?_));refine aA (jU (wpAny_draw_tuple f items.size 0 _ _ ⟨_,gT _ rfl,rfl,rfl⟩ (ht.push _) (by lia) λh₁ l d=>?_));rw[show List.take items.size (List.drop 0 items.toList)=items.toList by rw[List.drop_zero];exact List.take_of_length_le (by simp),if_neg (by simp)];have n:h₁.IsTuple t items:=(ht.push _).extBut d.extBut f;have j:HB h₁ A:=hb.mono λa o c h=>d.extBut a o (g a c) (b_ _ h);refine aA (jU (next_tuple_end (s:={s with heap:=h₁}) j g l n (by simp) λp k=>?_));simp only[Option.isSome_none,Bool.false_eq_true,if_false];exact bB (i p λb o hb e=>k b o hb (d.extBut b o hb (b_ _ e)))
theorem Tv{env:Env}{elts:List Expr}{c}{b:Pos}{t:Addr}{items:Array Value}{Q:Unit->Shared->Prop}(hb:HB s.heap A)(ht:s.heap.IsTuple t items)(hn:(assignEach elts env).length=items.size)(a:(assignEach elts env).findIdx? (·.1)=none)(h:∀h',Heap.ExtBut s.heap.objs.size s.heap h'->wpAny (model prog w) A (assignInOrder ((assignEach elts env).map (·.2)) items.toList) Q E {s with heap:=h'}):wpAny (model prog w) A (assign (.Tuple elts c b) env (.ref t)) Q E s:=by rw[arm_assign_Tuple];refine aA (wpAny_standAt ?_);unfold unpack;rw[hn,a];exact aA (jU (TL hb ht h))
end
theorem F0{prog:Program}{w:World}{A:Around}{s:Shared}{Q:Option Value->Shared->Prop}{E:Value->Shared->Prop}{I:Addr}{a c:Int}{n i:Nat}(hi:i<n)(st:IsRangeIter s.heap I (a+(i:Nat)*c) ((n:Int)-(i:Nat)) c)(d:∀v h' tk,(∃t,v= .int (a+i*c) t)->IsRangeIter h' I (a+((i+1:Nat):Int)*c) ((n:Int)-((i+1:Nat):Int)) c->(∀b o,b∉[I]->s.heap.get? b=some o->h'.get? b=some o)->Q (some v) {s with heap:=h',toks:=tk}):wpAny (model prog w) A (pyNext (.ref I)) Q E s:=by refine wpAny_pyNext_range_item st (by lia) λh' f g=>d _ h' _ ⟨_,rfl⟩ ?_ λb o hb e=>g.extBut b o (λh=>hb (by simp[h])) e;rw[show a+((i+1:Nat):Int)*c=a+(i:Int)*c+c by push_cast;rw[Int.add_mul,Int.one_mul,Int.add_assoc],show(n:Int)-((i+1:Nat):Int)=(n:Int)-(i:Int)-1 by push_cast;lia];exact f
noncomputable def lS(A:Around):List Addr:=match A.handled with|some (.ref a)=>[a]|_=>[]
theorem oj{A:Around}{d:Addr}(h:d∈lS A):A.handled=some (.ref d):=by
 unfold lS at h;split at h;·rename_i a e;rw[List.mem_singleton.mp h];exact e
 ·cases h
theorem HB.frame{A:Around}{h h':Heap}(hb:HB h A)(k:∀b∈lS A,∀o,h.get? b=some o->h'.get? b=some o):HB h' A:=hb.mono λa o c d=>k a (by unfold lS;rw[c];simp) o d
theorem Hr{prog:Program}{w:World}{A:Around}(I c:Addr)(p:c≠I)(items:Array Value)(j:∀a,A.handled=some (.ref a)->a≠I):Walks prog w A I (I::c::lS A) [I] items.size (λi v=>items[i]?=some v) (λi h=>h.IsListIter I c i/\h.IsList c items/\HB h A)where
 sub:=λb hb=>by simp at hb;simp[hb]
 frame:=λ_ _ _ st f=>⟨st.1.at λo e=>f I (by simp) o e,st.2.1.at λo e=>f c (by simp) o e,st.2.2.frame λb hb=>f b (by simp[hb])⟩;item:=λi s Q E hi st d=>by refine wpAny_pyNext_list_item st.1 st.2.1 (x:=items[i]) (by simp[hi]) λh' n g=>?_;exact d _ h' s.toks (by simp[hi]) ⟨n,st.2.1.extBut g.extBut p,st.2.2.mono λa o k l=>g.extBut a o (j a k) l⟩ λb o hb e=>g.extBut b o (λh=>hb (by simp[h])) e
 done:=λs Q E st d=>k9 st.2.2 j st.1 st.2.1 (by simp) λh' m=>d h' s.toks λb o hb e=>m b o (λh=>hb (by simp[h])) e;self:=λ_ _ _ _ st d=>wpAny_pyIter_listiter st.1 d
noncomputable abbrev Key:=Sum Int Str
noncomputable def AH:Key->Value->Bool| .inl k,v=>Value.isInt k v| .inr x,v=>Value.isStrOf x v
noncomputable def aeC(w:World):Key->Int| .inl k=>hashInt k| .inr x=>hashStr w x
theorem cV:∀{k:Key}{v:Value},AH k v=true->(∃i t,k=Sum.inl i/\v=Value.int i t)\/(∃x t,k=Sum.inr x/\v=Value.str x t)| .inl i,v,h=>by obtain⟨t,e⟩:=Value.isInt_shape (k:=i) (v:=v) h;exact .inl ⟨i,t,rfl,e⟩| .inr x,v,h=>by obtain⟨t,e⟩:=Value.isStrOf_shape (x:=x) (v:=v) h;exact .inr ⟨x,t,rfl,e⟩
theorem Nq(i:Int)(t:Tok):AH (.inl i) (.int i t)=true:=by simp[AH,Value.isInt]
theorem L_(x:Str)(t:Tok):AH (.inr x) (.str x t)=true:=by simp[AH,Value.isStrOf]
theorem Zy(a b:Int):decide ((Sum.inl a:Key)=Sum.inl b)=(a==b):=by
 by_cases e:a=b;·subst e;simp
 ·have h:¬(Sum.inl a:Key)=Sum.inl b:=λq=>e (Sum.inl.inj q);rw[decide_eq_false h];exact(beq_eq_false_iff_ne.mpr e).symm
theorem Xy(a b:Str):decide ((Sum.inr a:Key)=Sum.inr b)=decide (a=b):=by
 by_cases e:a=b;·subst e;simp
 ·have h:¬(Sum.inr a:Key)=Sum.inr b:=λq=>e (Sum.inr.inj q);rw[decide_eq_false h,decide_eq_false e]
theorem Xv(a:Int)(b:Str):decide ((Sum.inl a:Key)=Sum.inr b)=false:=decide_eq_false (λq=>nomatch q)
theorem aaB(a:Str)(b:Int):decide ((Sum.inr a:Key)=Sum.inl b)=false:=decide_eq_false (λq=>nomatch q)
noncomputable def cU(prog:Program)(w:World):PySem.KeyKind prog w Key where
 is:=AH;hash:=aeC w;inj:=λv a b ha hb=>by
  rcases cV ha with⟨i,t,rfl,rfl⟩|⟨x,t,rfl,rfl⟩
  ·rcases cV hb with⟨j,u,rfl,e⟩|⟨y,u,rfl,e⟩;·injection e with e1 _;rw[e1]
   ·exact nomatch e
  ·rcases cV hb with⟨j,u,rfl,e⟩|⟨y,u,rfl,e⟩;·exact nomatch e
   ·injection e with e1 _;rw[e1]
 byValue:=λk v h=>by rcases cV h with⟨i,t,rfl,rfl⟩|⟨x,t,rfl,rfl⟩<;>rfl
 pyHash:=λc h=>by
  rcases cV c with⟨i,t,rfl,rfl⟩|⟨x,t,rfl,rfl⟩;·exact wpAny_pyHash_int h
  ·exact wpAny_pyHash_str h
 eqBool:=λd c h=>by
  rcases cV d with⟨i,t,rfl,rfl⟩|⟨x,t,rfl,rfl⟩
  ·rcases cV c with⟨j,u,rfl,rfl⟩|⟨y,u,rfl,rfl⟩;·rw[Zy]at h;exact wpAny_eqBool_int h
   ·rw[Xv]at h;exact SeqAt.EqAt.int_str i t y u _ _ _ _ h
  ·rcases cV c with⟨j,u,rfl,rfl⟩|⟨y,u,rfl,rfl⟩;·rw[aaB]at h;exact SeqAt.EqAt.str_int x t j u _ _ _ _ h
   ·rw[Xy]at h;exact wpAny_eqBool_str h
 «strs»:=λk x t v h=>by
  rcases cV h with⟨i,u,rfl,e⟩|⟨y,u,rfl,e⟩;·exact nomatch e
  ·injection e with e1 _;subst e1;cases v<;>rfl
theorem E9(prog:Program)(w:World)(i:Int)(t:Tok):(cU prog w).is (.inl i) (.int i t)=true:=Nq i t
theorem EF(prog:Program)(w:World)(x:Str)(t:Tok):(cU prog w).is (.inr x) (.str x t)=true:=L_ x t
inductive V where|aW|bl(b:Bool)|int(i:Int)|str(x:Str)|NA(b:Array UInt8)|Z9(b:UInt64)|ref(a:Addr)|ty(n:String)deriving DecidableEq
noncomputable def RelV:V->Value->Prop| .aW,u=>u=Value.none| .bl b,u=>u=Value.bool b| .int i,u=>∃t,u=Value.int i t| .str x,u=>∃t,u=Value.str x t| .NA b,u=>∃t,u=Value.bytes b t| .Z9 b,u=>∃t,u=Value.float b t| .ref a,u=>u=Value.ref a| .ty n,u=>u=Value.type n
noncomputable abbrev Vals:List V->List Value->Prop:=Paired RelV
theorem Vals.length{xs:List V}{us:List Value}(r:Vals xs us):xs.length=us.length:=Paired.length r
theorem Vals.get:∀{xs:List V}{us:List Value}{i:Nat}{x:V},Vals xs us->xs[i]?=some x->∃u,us[i]?=some u/\RelV x u|_,_,_,_, .nil,e=>by simp at e|_,_,0,_, .cons r _,e=>by simp at e;subst e;exact⟨_,rfl,r⟩|_,_,i+1,x, .cons _ t,e=>by obtain⟨u,h1,h2⟩:=Vals.get (i:=i) (x:=x) t (by simpa using e);exact⟨u,by simpa using h1,h2⟩
theorem Vals.set{x:V}{u:Value}(r:RelV x u):∀{xs:List V}{us:List Value}(i:Nat),Vals xs us->Vals (xs.set i x) (us.set i u)|_,_,_, .nil=> .nil|_,_,0, .cons _ t=> .cons r t|_,_,i+1, .cons q t=> .cons q (Vals.set r i t)
theorem Vals.append:∀{xs a:List V}{us ws:List Value},Vals xs us->Vals a ws->Vals (xs++a) (us++ws)|_,_,_,_, .nil,s=>s|_,_,_,_, .cons r t,s=> .cons r (Vals.append t s)
theorem Vals.take:∀{xs:List V}{us:List Value}(n:Nat),Vals xs us->Vals (xs.take n) (us.take n)|_,_,0,_=> .nil|_,_,_+1, .nil=> .nil|_,_,n+1, .cons r t=> .cons r (Vals.take n t)
theorem Vals.drop:∀{xs:List V}{us:List Value}(n:Nat),Vals xs us->Vals (xs.drop n) (us.drop n)|_,_,0,r=>r|_,_,_+1, .nil=> .nil|_,_,n+1, .cons _ t=>Vals.drop n t
noncomputable def zj:Option V->Option Value->Prop|some v,some u=>RelV v u|none,none=>True|_,_=>False
noncomputable def KV{a:Type}:List (a×V)->List (a×Value)->Prop:=Paired λ(p:a×V)(q:a×Value)=>p.1=q.1/\RelV p.2 q.2
noncomputable def kV:Key->V| .inl i=> .int i| .inr x=> .str x
inductive UX where|tab(q:Str)(ln cl:Value)|code(q:Str)
inductive HO where/--a list -/|lst(xs:List V)/--a tuple (never changes) -/|tup(xs:List V)/--a dict whose keys are ints and texts; one whose keys are tuples of ints and texts (the empty one is both) -/|dK(aH:List (Key×V))|dT(aH:List (List Key×V))/--a set of ints: its members, its size -/|set(S:Int->Bool)(n:Nat)/--an instance of the class at C, its dict at dx, its attributes -/|ins(C dx:Addr)(fs:List (Str×V))/--the dict of the instance at x -/|own(x:Addr)/--the dict of an exception -/|xd(fs:List (Str×V))/--a bound method, f of x -/|met(f x:Addr)/--a range object lo, lo + 1, .. below hi -/|rng(lo hi:Int)/--a thing that is known to the object (the script; a dict while a loop walks it): read, never written while it is so -/|FA(o:Obj)(u:HO)/--a code object's table -/|zk(ps:UX)/--any other thing, by what is true of its one object (a def of one's own: SetO a S n := HO.ext fun h => ..) -/|ext(φ:Heap->Prop)
noncomputable abbrev Hp:=Addr->Option HO
noncomputable def upd(H:Hp)(a:Addr)(o:HO):Hp:=λb=>if b=a then some o else H b
theorem ak{H:Hp}{a:Addr}{o:HO}:upd H a o a=some o:=by unfold upd;rw[if_pos rfl]
theorem aZ{H:Hp}{a b:Addr}{o:HO}(h:b≠a):upd H a o b=H b:=by unfold upd;rw[if_neg h]
theorem T8{H:Hp}{a:Addr}{o u:HO}:upd (upd H a o) a u=upd H a u:=by funext b;unfold upd;split<;>rfl
theorem U8{H:Hp}{a b:Addr}{o u:HO}(h:H a=some o)(h':H b=some u)(d:o≠u):a≠b:=by intro e;subst e;rw[h]at h';exact d (Option.some.inj h')
theorem aX{H:Hp}{a b:Addr}{o:HO}(h:H a=some o)(h':H b=none):a≠b:=by intro e;subst e;rw[h]at h';cases h'
section
variable(P:Program)(w:World)
noncomputable def cI(H:Hp)(h:Heap)(a:Addr):HO->Prop| .lst xs=>xs.length<=sizeLine/\∃(b:List Value)(n:Nat),Vals xs b/\h.get? a=some {cls:= .type "list",data:= .seq b.toArray n}| .tup xs=>xs.length<=sizeLine/\∃b:List Value,Vals xs b/\IsTup h a b.toArray| .dK aH=>aH.length<=sizeLine/\(a==sysModules)=false/\∃vs,KV aH vs/\h.DictOf (cU P w) a vs| .dT aH=>aH.length<=sizeLine/\(a==sysModules)=false/\∃xs:List (List Key×Addr×Value),Paired (λ(p:List Key×V)(q:List Key×Addr×Value)=>p.1=q.1/\H q.2.1=some (.tup (p.1.map kV))/\RelV p.2 q.2.2) aH xs/\∃o es ep,h.get? a=some o/\o.ExactDict/\o.data= .dict es ep/\es.toList=xs.map (entryOfKey (tupleKind (cU P w)))/\(xs.map (·.1)).Nodup| .set S n=>h.SetOf (intKind P w) a S n| .ins C dx fs=>H dx=some (.own a)/\fs.length<=1000/\dx≠a/\h.get? a=some (PySem.W.instObj C dx)/\∃mA,h.Ns1 dx mA/\(∀f,zj (fs.lookup f) (mA f))/\PySem.Within mA (fs.map (·.1))| .own _=>∃o,h.get? a=some o| .xd fs=>∃mA,h.Ns1 a mA/\∀f,zj (fs.lookup f) (mA f)| .rng lo hi=>∃t u v,h.get? a=some {cls:= .type "range",data:= .fields #[.int lo t, .int hi u, .int 1 v]}| .FA o u=>h.get? a=some o/\cI H h a u| .zk (.tab q ln cl)=>h.get? a=some {cls:= .none,data:= .fields #[]}\/∃c,h.get? a=some {cls:= .none,data:= .fields #[ln,cl, .ref c]}/\H c=some (.zk (.code q))| .zk (.code q)=>h.CodeRec (.ref a) q| .met f x=>h.get? a=some (PySem.W.methodObj (.ref f) (.ref x))| .ext φ=>φ h/\(∃o,h.get? a=some o)/\∀h1 h2:Heap,φ h1->(∀o,h1.get? a=some o->h2.get? a=some o)->φ h2
def jN(H:Hp)(h:Heap):Prop:=∀a o,H a=some o->cI P w H h a o
end
section
variable{P:Program}{w:World}{H H':Hp}{h h':Heap}{a:Addr}{o:HO}
theorem cI.lt(x:cI P w H h a o):a<h.objs.size:=by
 cases o with
  |lst xs=>obtain⟨_,_,_,_,e⟩:=x;exact bT e
  |tup xs=>obtain⟨_,_,_,p⟩:=x;exact p.lt
  |dK aH=>obtain⟨_,_,_,_,o,_,_,e,_⟩:=x;exact bT e
  |dT aH=>obtain⟨_,_,_,_,o,_,_,e,_⟩:=x;exact bT e
  |set S n=>obtain⟨o,_,_,_,e,_⟩:=x;exact bT e
  |ins C dx fs=>obtain⟨_,_,_,e,_⟩:=x;exact bT e
  |own y=>obtain⟨_,e⟩:=x;exact bT e
  |xd fs=>obtain⟨_,⟨_,_,_,e,_⟩,_⟩:=x;exact bT e
  |rng lo hi=>obtain⟨_,_,_,e⟩:=x;exact bT e
  |FA ob u=>obtain⟨e,_⟩:=x;exact bT e
  |zk ps=>cases ps with|tab q ln cl=>rcases x with e|⟨c,e,_⟩<;>exact bT e|code q=>obtain⟨c,o,vs,t,e1,e2,_⟩:=x;cases e1;exact bT e2
  |met f y=>exact bT (show h.get? a=some _ from x)
  |ext φ=>obtain⟨_,⟨_,e⟩,_⟩:=x;exact bT e
theorem Paired.ZY{e g:Type}{F G:e->g->Prop}:∀{c:List e}{d:List g},Paired F c d->(∀a b,F a b->G a b)->Paired G c d|_,_, .nil,_=> .nil|_,_, .cons r t,f=> .cons (f _ _ r) (Paired.ZY t f)
noncomputable def Fix:HO->Prop| .tup _=>True| .zk _=>True|_=>False
noncomputable abbrev adi:={u:HO//Fix u}
theorem cI.mP(x:cI P w H h a o)(k:∀b u,(b=a\/H b=some (.own a))->h.get? b=some u->h'.get? b=some u)(i:∀b,H b=some (.own a)->H' b=some (.own a))(ht:∀(b:Addr)(u:adi),H b=some u.1->H' b=some u.1):cI P w H' h' a o:=by
 induction o with
  |lst xs=>obtain⟨z,g,n,r,e⟩:=x;exact⟨z,g,n,r,k _ _ (.inl rfl) e⟩
  |tup xs=>obtain⟨z,g,r,ob,e,c⟩:=x;exact⟨z,g,r,ob,k _ _ (.inl rfl) e,c⟩
  |dK aH=>obtain⟨z,y,vs,r,ob,es,ep,e,c⟩:=x;exact⟨z,y,vs,r,ob,es,ep,k _ _ (.inl rfl) e,c⟩
  |dT aH=>obtain⟨z,y,xs,r,ob,es,ep,e,c⟩:=x;exact⟨z,y,xs,Paired.ZY r λp q z=>⟨z.1,ht _ ⟨.tup _,trivial⟩ z.2.1,z.2.2⟩,ob,es,ep,k _ _ (.inl rfl) e,c⟩
  |set S n=>obtain⟨ob,es,ep,t,e,c⟩:=x;exact⟨ob,es,ep,t,k _ _ (.inl rfl) e,c⟩
  |ins C dx fs=>obtain⟨d,z,ne,e,mA,⟨od,es,ep,e2,c⟩,r⟩:=x;exact⟨i _ d,z,ne,k _ _ (.inl rfl) e,mA,⟨od,es,ep,k _ _ (.inr d) e2,c⟩,r⟩
  |own y=>obtain⟨ob,e⟩:=x;exact⟨ob,k _ _ (.inl rfl) e⟩
  |xd fs=>obtain⟨mA,⟨od,es,ep,e,c⟩,r⟩:=x;exact⟨mA,⟨od,es,ep,k _ _ (.inl rfl) e,c⟩,r⟩
  |rng lo hi=>obtain⟨t,u,v,e⟩:=x;exact⟨t,u,v,k _ _ (.inl rfl) e⟩
  |FA ob u j=>obtain⟨e,q⟩:=x;exact⟨k _ _ (.inl rfl) e,j q⟩
  |zk ps=>
   cases ps with
    |tab q ln cl=>
     rcases x with e|⟨c,e,r⟩;·exact .inl (k a _ (.inl rfl) e)
     ·exact .inr ⟨c,k a _ (.inl rfl) e,ht c ⟨.zk (.code q),trivial⟩ r⟩
    |code q=>obtain⟨c,o,vs,t,e1,e2,e3⟩:=x;cases e1;exact⟨_,o,vs,t,rfl,k a _ (.inl rfl) e2,e3⟩
  |met f y=>have e:h.get? a=some (PySem.W.methodObj (.ref f) (.ref y)):=x;show h'.get? a=some (PySem.W.methodObj (.ref f) (.ref y));exact k a _ (.inl rfl) e
  |ext φ=>obtain⟨p,⟨o,e⟩,st⟩:=x;exact⟨st _ _ p λo q=>k _ _ (.inl rfl) q,⟨o,k _ _ (.inl rfl) e⟩,st⟩
theorem jN.lt(x:jN P w H h)(e:H a=some o):a<h.objs.size:=(x a o e).lt
theorem jN.fresh(x:jN P w H h)(e:h.objs.size<=a):H a=none:=by cases q:H a with|none=>rfl|some u=>exact absurd (gK (x.lt q) e) (Nat.lt_irrefl _)
theorem jN.kept(x:jN P w H h)(k:∀b u,h.get? b=some u->h'.get? b=some u):jN P w H h':=λa o e=>(x a o e).mP (λb u _ q=>k b u q) (λ_ q=>q) λ_ _ q=>q
theorem jN.laid(x:jN P w H h)(k:∀b u,h.get? b=some u->h'.get? b=some u)(hp:h.objs.size<=a)(new:cI P w (upd H a o) h' a o):jN P w (upd H a o) h':=λb u e=>by
 have hn:=x.fresh hp;by_cases hb:b=a;·subst hb;rw[ak]at e;cases e;exact new
 ·rw[aZ hb]at e;exact(x b u e).mP (λc v _ q=>k c v q) (λc q=>by rw[aZ (aX q hn)];exact q) λc xs q=>by rw[aZ (aX q hn)];exact q
end
def Rd(H:Hp)(a:Addr)(u:HO):Prop:=H a=some u\/∃o,H a=some (.FA o u)
theorem Rd.ok{P:Program}{w:World}{H:Hp}{h:Heap}{a:Addr}{u:HO}(r:Rd H a u)(x:jN P w H h):cI P w H h a u:=by
 rcases r with r|⟨o,r⟩;·exact x a u r
 ·obtain⟨_,q⟩:=x a _ r;exact q
noncomputable def Mut:Option HO->Prop|some (.lst _)=>True|some (.dK _)=>True|some (.dT _)=>True|some (.set _ _)=>True|some (.ins _ _ _)=>True|some (.ext _)=>True|_=>False
section
variable{P:Program}{w:World}{H:Hp}{h h':Heap}{x e:Addr}{o':HO}
theorem jN.write(ok:jN P w H h)(d:Mut (H x))(g:e=x\/H e=some (.own x))(k:∀b u,b≠e->h.get? b=some u->h'.get? b=some u)(l:∃u,h'.get? e=some u)(new:cI P w (upd H x o') h' x o'):jN P w (upd H x o') h':=λb u q=>by
 have i:∀c y,H c=some (.own y)->c≠x:=λc y r z=>by subst z;rw[r]at d;exact d
 have n:∀(c:Addr)(u:adi),H c=some u.1->c≠x:=λc⟨u,f⟩r z=>by subst z;rw[show H c=some u from r]at d;cases u<;>first|exact d|exact f
 by_cases hb:b=x;·subst hb;rw[ak]at q;cases q;exact new
 ·rw[aZ hb]at q;by_cases a:b=e
  ·have j:H b=some (.own x):=by
    rcases g with z|z;·exact absurd (a.trans z) hb
    ·rw[a];exact z
   rw[q]at j;cases j;obtain⟨v,m⟩:=l;exact⟨v,by rw[a];exact m⟩
  ·refine(ok b u q).mP (λc v hc r=>k c v ?_ r) (λc r=>by rw[aZ (i c b r)];exact r) λc xs r=>by rw[aZ (n c xs r)];exact r
   rcases hc with rfl|hc;·exact a
   ·rintro rfl;rcases g with z|z;·exact i c b hc z
    ·rw[hc]at z;cases z;exact hb rfl
end
structure Un(fs ex:List Addr)(H H':Hp)(h h':Heap):Prop where
 keep:∀b o,h.get? b=some o->H b=none->b∉fs->b∉ex->h'.get? b=some o
 slot:∀b o,h.get? b=some o->H b=none->b∈fs->b∉ex->∃sl,h'.get? b=some {o with slots:=sl}
 free:∀b o,h.get? b=some o->H b=none->b∉ex->H' b=none
 there:∀b o,h.get? b=some o->b∉ex->∃o',h'.get? b=some o'
 xJ:∀b xs,H b=some (.tup xs)->H' b=some (.tup xs)
 qZ:∀b o u,H b=some (.FA o u)->H' b=some (.FA o u)
 qY:∀b ps,H b=some (.zk ps)->H' b=some (.zk ps)
section
variable{fs fs' ex ex':List Addr}{H H1 H2:Hp}{h h1 h2 h':Heap}{a x e:Addr}{o:HO}
theorem Un.any(u:Un fs ex H H1 h h1){b:Addr}{ob:Obj}(q:h.get? b=some ob)(n:H b=none)(c:b∉ex):∃sl,h1.get? b=some {ob with slots:=sl}:=by
 by_cases hb:b∈fs;·exact u.slot b ob q n hb c
 ·exact⟨ob.slots,u.keep b ob q n hb c⟩
theorem Un.kept(k:∀b u,h.get? b=some u->h'.get? b=some u):Un fs ex H H h h':=⟨λb ob q _ _ _=>k b ob q,λb ob q _ _ _=>⟨ob.slots,k b ob q⟩,λ_ _ _ n _=>n,λb ob q _=>⟨ob,k b ob q⟩,λ_ _ q=>q,λ_ _ _ q=>q,λ_ ps q=>(by rw[q])⟩
theorem Un.refl:Un fs ex H H h h:=Un.kept λ_ _ q=>q
theorem Un.laid(k:∀b u,h.get? b=some u->h'.get? b=some u)(hp:h.objs.size<=a)(hn:H a=none):Un fs ex H (upd H a o) h h' where
 keep:=λb u q _ _ _=>k b u q;slot:=λb u q _ _ _=>⟨u.slots,k b u q⟩;free:=λb u q n _=>by rw[aZ (eg (gK (bT q) hp))];exact n
 there:=λb u q _=>⟨u,k b u q⟩;xJ:=λb xs q=>by rw[aZ (aX q hn)];exact q
 qZ:=λb u xs q=>by rw[aZ (aX q hn)];exact q
 qY:=λb ps q=>(by rw[aZ (aX q hn),q])
theorem Un.write(c:Mut (H x))(g:e=x\/H e=some (.own x))(k:∀b u,b≠e->h.get? b=some u->h'.get? b=some u)(i:∃u,h'.get? e=some u):Un fs ex H (upd H x o) h h':=by
 have f:∀b,H b=none->b≠x:=λb n z=>by subst z;rw[n]at c;exact c
 have hb:∀b,H b=none->b≠e:=λb n z=>by
  subst z;rcases g with r|r;·exact f b n r
  ·rw[n]at r;cases r
 have hm:∀b u,H b=some u->¬Mut (some u)->b≠x:=λb u q j z=>by subst z;rw[q]at c;exact j c
 refine⟨λb u q n _ _=>k b u (hb b n) q,λb u q n _ _=>⟨u.slots,k b u (hb b n) q⟩,λb u q n _=>by rw[aZ (f b n)];exact n,λb u q _=>?_,λb xs q=>by rw[aZ (hm b _ q λz=>z)];exact q,λb u xs q=>by rw[aZ (hm b _ q λz=>z)];exact q,λb ps q=>(by rw[aZ (hm b _ q λz=>z),q])⟩;by_cases d:b=e;·subst d;exact i
 ·exact⟨u,k b u d q⟩
end
noncomputable def trk(h:Heap)(H:Hp):List Addr:=(List.range h.objs.size).filter λa=>(H a).isSome
noncomputable def B9(h:Heap)(H:Hp):Heap:=PySem.W.hideAll h (trk h H)
theorem Ab(h:Heap)(H:Hp):(B9 h H).objs.size=h.objs.size:=PySem.W.hideAll_size _ _
theorem mB{h:Heap}{H:Hp}{b:Addr}{o:Obj}(e:h.get? b=some o)(n:H b=none):(B9 h H).get? b=some o:=PySem.W.hideAll_get _ e λhm=>by have q:(H b).isSome=true:=(List.mem_filter.mp hm).2;rw[n]at q;simp at q
theorem LI{h:Heap}{H:Hp}{b:Addr}{o:Obj}(e:(B9 h H).get? b=some o):h.get? b=some o/\H b=none:=by have e':h.get? b=some o:=PySem.W.of_hideAll (trk h H) e;refine⟨e',?_⟩;cases q:H b with|none=>rfl|some x=>have hm:b∈trk h H:=List.mem_filter.mpr ⟨List.mem_range.mpr (bT e'),by simp[q]⟩;have z:(B9 h H).get? b=none:=PySem.W.hideAll_none (trk h H) hm;rw[z]at e;cases e
noncomputable def UT(g h:Heap)(L:Addr):List (Addr×Obj):=(List.range h.objs.size).filterMap λa=>if a=L\/(g.get? a).isSome=true then none else(h.get? a).map λo=>(a,o)
noncomputable def rest(g h:Heap)(L d:Addr):List (Addr×Obj):=(UT g h L).filter λp=>decide (p.1≠d)
def BmK(mg:Str->Option Value)(h:Heap):Prop:=∃bm ob,mg "__builtins__"=some (.ref bm)/\bm≠builtinsNs/\h.get? bm=some ob/\ob.cls= .type "module"/\ob.dict=some builtinsNs/\ob.data= .plain
theorem BmK.keeps{mg:Str->Option Value}{h h':Heap}(x:BmK mg h)(k:∀b o,h.get? b=some o->h'.get? b=some o):BmK mg h':=let⟨bm,ob,a,b,c,d⟩:=x;⟨bm,ob,a,b,k _ _ c,d⟩
structure Mod(K:PySem.W.Frag)(mg:Str->Option Value)(base:Heap):Prop where
 Mt:K.In base
 glob:base.Ns mainGlobals mg
 blt:∃mb,base.Ns builtinsNs mb/\∀x:Str,x≠"__name__"->mb x=bootBuiltins x
 nolimit:base.NoLimit
 bm:BmK mg base
structure Cx where
 prog:Program
 w:World
 K:PySem.W.Frag
 mg:Str->Option Value
 base:Heap
 A:Around
 N:List Str
 cC:Shared
 H₀:Hp
 env:Env
 outer:List Env
 stack:List Env
 ex:List Addr
 fn:Str->Bool
 calm:Bool
 pn:List (Addr×Obj)
 xe:Value->Shared->Prop
noncomputable def jQ(l:List Env):List Addr:=l.filterMap (·.frame)
noncomputable abbrev Cx.fs(X:Cx):List Addr:=jQ X.outer
def Vis(sc:Scope)(x:Str):Prop:=sc.names.lookup x=some .local\/sc.names.lookup x=some .cell\/sc.names.lookup x=some .free
def Loc(sc:Scope)(x:Str):Prop:=sc.names.lookup x=some .local\/sc.names.lookup x=some .cell
noncomputable def acd(sc:Scope)(x:Str):Bool:=match sc.names.lookup x with|some .local=>true|some .cell=>true|_=>false
theorem bY{sc:Scope}{x:Str}(h:acd sc x=true):Loc sc x:=by
 unfold acd at h;split at h;·exact Or.inl (by assumption)
 ·exact Or.inr (by assumption)
 ·cases h
noncomputable def Look(env:Env)(h:Heap)(m:Str->Option Value)(x:Str)(u:Value):Prop:=(env.kindOf x=some .local/\m x=some u)\/((env.kindOf x=some .cell\/env.kindOf x=some .free)/\∃c,env.cells.lookup x=some c/\h.IsCell c (some u))
structure Cx.Ok(X:Cx):Prop where
 mod:Mod X.K X.mg X.base
 kind:X.env.scope.kind= .function
 glob:X.env.globals=mainGlobals
 blt:X.env.builtins=builtinsNs
 above:X.cC.heap.objs.size<=X.env.locals
 inj:∀x y c,X.env.cells.lookup x=some c->X.env.cells.lookup y=some c->x=y
 has:∀x,(X.env.kindOf x=some .cell\/X.env.kindOf x=some .free)->∃c,X.env.cells.lookup x=some c
 UB:∀x c,X.fn x=true->X.env.cells.lookup x=some c->X.cC.heap.objs.size<=c
 hd:X.calm=true->HBp X.base X.pn X.A
 frames:X.A.frames=some X.stack
 YA:X.stack=X.outer\/(X.stack=X.env::X.outer/\X.env.frame=some X.env.locals)
 YF:∀b∈X.ex,b≠X.env.locals/\∀x c,X.env.cells.lookup x=some c->c≠b
 bs:∀b o,X.base.get? b=some o->X.cC.heap.get? b=some o/\X.H₀ b=none
 FD:X.base.objs.size<=X.cC.heap.objs.size
 zq:∀b o,X.base.get? b=some o->b∉X.ex
 A0:∀b∈X.ex,b∉X.fs
 jw:X.cC.heap.FunFrames X.base X.outer
 Sh:∀b∈X.fs,X.H₀ b=none
structure Inv(X:Cx)(pins:List (Addr×Obj))(σ:List (Option V))(H:Hp)(s:Shared):Prop where
 ok:X.Ok
 os:s.os=X.cC.os
 bare:AllBare s.gens
 base:Un X.fs X.ex X.H₀ H X.cC.heap s.heap
 loc:∃m,s.heap.Ns X.env.locals m/\∀(i:Nat)(x:Str)(v:V),X.N[i]?=some x->σ[i]?=some (some v)->Vis X.env.scope x->∃u,RelV v u/\Look X.env s.heap m x u
 cell:∀x c,X.env.cells.lookup x=some c->∃v,s.heap.IsCell c v
 free:H X.env.locals=none
 fe:∀x c,X.env.cells.lookup x=some c->H c=none
 pin:∀p∈X.pn++pins,s.heap.get? p.1=some p.2/\H p.1=none/\p.1≠X.env.locals/\p.1∉X.fs/\∀v,p.2.data≠ .cell v
 b9:jN X.prog X.w H s.heap
 len:σ.length=X.N.length
section
variable{X:Cx}{pins:List (Addr×Obj)}{σ:List (Option V)}{H H':Hp}{s:Shared}{h':Heap}
theorem Cx.Ok.X3(ok:X.Ok){b:Addr}{o:Obj}(e:X.base.get? b=some o):b∉X.fs:=λhb=>by have :=(ok.jw.mem hb).1;rw[e]at this;cases this
theorem Inv.bs(I:Inv X pins σ H s):∀b o,X.base.get? b=some o->s.heap.get? b=some o/\H b=none:=λb o e=>⟨I.base.keep b o (I.ok.bs b o e).1 (I.ok.bs b o e).2 (I.ok.X3 e) (I.ok.zq b o e),I.base.free b o (I.ok.bs b o e).1 (I.ok.bs b o e).2 (I.ok.zq b o e)⟩
theorem Inv.bk(I:Inv X pins σ H s):∀b o,X.base.get? b=some o->s.heap.get? b=some o:=λb o e=>(I.bs b o e).1
theorem Inv.mod(I:Inv X pins σ H s):Mod X.K X.mg X.base:=I.ok.mod
theorem Inv.hb(I:Inv X pins σ H s)(hc:X.calm=true):HB s.heap X.A:=by
 rcases I.ok.hd hc with h|⟨a,oe,vs,e1,e2,e3⟩;·exact .inl h
 ·exact .inr ⟨a,oe,vs,e1,e2.elim (I.bk a oe) λm=>(I.pin (a,oe) (qP _ m)).1,e3⟩
theorem Inv.SG(I:Inv X pins σ H s)(hc:X.calm=true){it:Addr}(d:it∈X.ex\/X.cC.heap.objs.size<=it)(e:∀p∈X.pn++pins,p.1≠it):∀a,X.A.handled=some (.ref a)->a≠it:=λa c z=>by
 subst z;rcases I.ok.hd hc with h|⟨b,oe,vs,e1,e2,e3⟩;·rw[h]at c;cases c
 ·rw[e1]at c;cases c;rcases e2 with e2|e2
  ·rcases d with z|z;·exact I.ok.zq _ _ e2 z
   ·exact absurd (gK (bT e2) I.ok.FD) (Nat.not_lt.mpr z)
  ·exact e _ (qP _ e2) rfl
theorem Inv.kI(I:Inv X pins σ H s):X.K.In s.heap:=I.ok.mod.Mt.keeps I.bk
theorem Inv.fr(I:Inv X pins σ H s):∃m,Fr X.base X.env.locals s.heap m:=let⟨m,hn,_⟩:=I.loc;⟨m,hn,I.bk,c8 I.ok.FD I.ok.above⟩
theorem Inv.lt(I:Inv X pins σ H s):X.env.locals<s.heap.objs.size:=let⟨_,hn,_⟩:=I.loc;hn.lt
theorem Inv.sz(I:Inv X pins σ H s):X.cC.heap.objs.size<=s.heap.objs.size:=c8 I.ok.above (Nat.le_of_lt I.lt)
theorem Inv.ad6(I:Inv X pins σ H s){a:Addr}(h:s.heap.objs.size<=a):a∉X.fs:=λhb=>by obtain⟨_,o,b,_⟩:=I.ok.jw.mem hb;exact absurd (gK (bT b) (c8 I.sz h)) (Nat.lt_irrefl _)
theorem Inv.Uh(I:Inv X pins σ H s):∀x c,X.env.cells.lookup x=some c->c≠X.env.locals:=λx c e z=>by obtain⟨v,o,a,hd⟩:=I.cell x c e;obtain⟨m,⟨o',es,ep,d,b,_⟩,_⟩:=I.loc;rw[z,d]at a;cases a;rw[b]at hd;cases hd
theorem Inv.jw(I:Inv X pins σ H s):s.heap.FunFrames X.base X.outer:=by
 have all:∀(l:List Env),(∀b∈jQ l,b∈X.fs)->X.cC.heap.FunFrames X.base l->s.heap.FunFrames X.base l:=by intro l;induction l with|nil=>intro _ _;trivial|cons env r h=>intro c hl;obtain⟨d,⟨L,o,hf,hn,f,hd⟩,g⟩:=hl;have a:L∈X.fs:=c L (by unfold jQ;rw[CC,hf];exact d4);obtain⟨sl,e⟩:=I.base.slot L o f (I.ok.Sh L a) a λz=>I.ok.A0 L z a;exact⟨d,⟨L,_,hf,hn,e,hd⟩,h (λb hb=>c b (by unfold jQ;rw[CC,hf];exact dW _ hb)) g⟩
 exact all X.outer (λ_ hb=>hb) I.ok.jw
theorem Inv.stack(I:Inv X pins σ H s):s.heap.FunFrames X.base X.stack:=by
 rcases I.ok.YA with e|⟨e,hf⟩;·rw[e];exact I.jw
 ·rw[e];obtain⟨m,hn,_⟩:=I.loc;refine .cons (by rw[I.ok.kind];decide) hf hn ?_ I.jw;exact Heap.get?_none_of_le (c8 I.ok.FD I.ok.above)
theorem Inv.gD(I:Inv X pins σ H s):∀b∈jQ X.stack,b∈X.env.locals::X.fs:=λb hb=>by
 rcases I.ok.YA with e|⟨e,hf⟩;·rw[e]at hb;exact dW _ hb
 ·rw[e]at hb;unfold jQ at hb;rw[CC,hf]at hb;exact hb
theorem Inv.BY(I:Inv X pins σ H s):∀b∈jQ X.stack,H b=none:=λb hb=>by
 rcases List.mem_cons.mp (I.gD b hb)with e|hb;·rw[e];exact I.free
 ·obtain⟨_,o,a,_⟩:=I.ok.jw.mem hb;exact I.base.free b o a (I.ok.Sh b hb) λz=>I.ok.A0 b z hb
theorem Inv.step{g':Array GenState}{t':Nat}{d':Drawn}{ch:List Addr}(I:Inv X pins σ H s)(g:∀b∈ch,(b∈X.ex\/X.cC.heap.objs.size<=b)/\b≠X.env.locals/\(∀x c,X.env.cells.lookup x=some c->c≠b)/\∀p∈X.pn++pins,p.1≠b)(keep:∀b o,b≠X.env.locals->b∉X.fs->b∉ch->s.heap.get? b=some o->H b=none->h'.get? b=some o)(slot:∀b o,b≠X.env.locals->b∈X.fs->b∉ch->s.heap.get? b=some o->H b=none->∃sl,h'.get? b=some {o with slots:=sl})(free:∀b o,b∉ch->s.heap.get? b=some o->H b=none->H' b=none)(there:∀b o,b∉ch->s.heap.get? b=some o->∃o',h'.get? b=some o')(xJ:∀b xs,H b=some (.tup xs)->H' b=some (.tup xs))(qZ:∀b o u,H b=some (.FA o u)->H' b=some (.FA o u))(qY:∀b ps,H b=some (.zk ps)->H' b=some (.zk ps))(ns:∀m,s.heap.Ns X.env.locals m->h'.Ns X.env.locals m)(b9:jN X.prog X.w H' h')(y:AllBare g'):Inv X pins σ H' {s with heap:=h',gens:=g',drawn:=d',toks:=t'}:=by
 have t:∀b o,X.cC.heap.get? b=some o->b≠X.env.locals:=λb o e=>eg (gK (bT e) I.ok.above);have j:∀b o,X.cC.heap.get? b=some o->b∉X.ex->b∉ch:=λb o e a hb=>by
  rcases(g b hb).1 with z|z;·exact a z
  ·exact absurd (gK (bT e) z) (Nat.lt_irrefl _)
 have cellK:∀x c,X.env.cells.lookup x=some c->∀v,s.heap.IsCell c v->h'.IsCell c v:=λx c e v⟨o,f,hd⟩=>by
  have h:c∉ch:=λz=>(g c z).2.2.1 x c e rfl;by_cases hc:c∈X.fs;·obtain⟨sl,q⟩:=slot c o (I.Uh x c e) hc h f (I.fe x c e);exact⟨_,q,hd⟩
  ·exact⟨o,keep c o (I.Uh x c e) hc h f (I.fe x c e),hd⟩
 refine⟨I.ok,I.os,y,⟨λb o e n hb a=>?_,λb o e n hb a=>?_,λb o e n a=>?_,λb o e a=>?_,λb xs e=>xJ b xs (I.base.xJ b xs e),λb o xs e=>qZ b o xs (I.base.qZ b o xs e),λb ps e=>?_⟩,?_,λx c e=>?_,?_,λx c e=>?_,λp hp=>?_,b9,I.len⟩;·exact keep b o (t b o e) hb (j b o e a) (I.base.keep b o e n hb a) (I.base.free b o e n a)
 ·obtain⟨sl,e1⟩:=I.base.slot b o e n hb a;obtain⟨A,e2⟩:=slot b _ (t b o e) hb (j b o e a) e1 (I.base.free b o e n a);exact⟨A,e2⟩
 ·obtain⟨o',e1⟩:=I.base.there b o e a;exact free b o' (j b o e a) e1 (I.base.free b o e n a)
 ·obtain⟨o',e1⟩:=I.base.there b o e a;exact there b o' (j b o e a) e1
 ·exact qY b ps (I.base.qY b ps e)
 ·obtain⟨m,hn,hl⟩:=I.loc;refine⟨m,ns m hn,λi x v e1 e2 e3=>?_⟩;obtain⟨u,r,l⟩:=hl i x v e1 e2 e3;refine⟨u,r,?_⟩;rcases l with l|⟨k,c,e,z⟩;·exact .inl l
  ·exact .inr ⟨k,c,e,cellK x c e _ z⟩
 ·obtain⟨v,z⟩:=I.cell x c e;exact⟨v,cellK x c e v z⟩
 ·obtain⟨m,⟨o,_,_,f,_⟩,_⟩:=I.loc;exact free _ o (λz=>(g _ z).2.1 rfl) f I.free
 ·obtain⟨v,o,f,hd⟩:=I.cell x c e;exact free c o (λz=>(g c z).2.2.1 x c e rfl) f (I.fe x c e)
 ·obtain⟨e,n,ne,w,d⟩:=I.pin p hp;have h:p.1∉ch:=λz=>(g p.1 z).2.2.2 p hp rfl;exact⟨keep p.1 p.2 ne w h e n,free p.1 p.2 h e n,ne,w,d⟩
theorem Inv.un{t':Nat}(I:Inv X pins σ H s)(u:Un X.fs [] H H' s.heap h')(b9:jN X.prog X.w H' h'):Inv X pins σ H' {s with heap:=h',toks:=t'}:=by obtain⟨m,⟨o,es,ep,a,r⟩,_⟩:=id I.loc;obtain⟨sl,g⟩:=u.any a I.free (by simp);exact I.step (g':=s.gens) (d':=s.drawn) (ch:=[]) (λ_ z=>nomatch z) (λb o _ hb _ e n=>u.keep b o e n hb (by simp)) (λb o _ hb _ e n=>u.slot b o e n hb (by simp)) (λb o _ e n=>u.free b o e n (by simp)) (λb o _ e=>u.there b o e (by simp)) u.xJ u.qZ u.qY (λi hm=>by obtain⟨o',f,d,c,h⟩:=hm;rw[a]at c;cases c;exact⟨_,f,d,g,h⟩) b9 I.bare
theorem Inv.call{g':Array GenState}{t':Nat}{d':Drawn}{ch:List Addr}(I:Inv X pins σ H s)(u:Un (jQ X.stack) ch H H' s.heap h')(b9:jN X.prog X.w H' h')(j:AllBare g')(d:∀b∈ch,(b∈X.ex\/X.cC.heap.objs.size<=b)/\b≠X.env.locals/\(∀x c,X.env.cells.lookup x=some c->c≠b)/\∀p∈X.pn++pins,p.1≠b):Inv X pins σ H' {s with heap:=h',gens:=g',drawn:=d',toks:=t'}:=by obtain⟨m,⟨o,es,ep,f,r⟩,_⟩:=id I.loc;obtain⟨sl,a⟩:=u.any f I.free λz=>(d _ z).2.1 rfl;exact I.step (ch:=ch) d (λb o a hb hc e n=>u.keep b o e n (λz=>(List.mem_cons.mp (I.gD b z)).elim a hb) hc) (λb o _ _ hc e n=>u.any e n hc) (λb o hc e n=>u.free b o e n hc) (λb o hc e=>u.there b o e hc) u.xJ u.qZ u.qY (λl hm=>by obtain⟨o',i,h,g,k⟩:=hm;rw[f]at g;cases g;exact⟨_,i,h,a,k⟩) b9 j
theorem Inv.turned{t':Nat}{it:Addr}(I:Inv X pins σ H s)(k:∀b o,b≠it->s.heap.get? b=some o->h'.get? b=some o)(hn:H it=none)(a:it≠X.env.locals)(h1:it∈X.ex\/X.cC.heap.objs.size<=it)(h2:∀x c,X.env.cells.lookup x=some c->c≠it)(h3:∀p∈X.pn++pins,p.1≠it):Inv X pins σ H {s with heap:=h',toks:=t'}:=by
 have d:∀b u,H b=some u->b≠it:=λb u e z=>by rw[z,hn]at e;cases e
 refine I.step (g':=s.gens) (d':=s.drawn) (ch:=[it]) (λb hb=>?_) (λb o _ _ hc e _=>k b o (λz=>hc (by simp[z])) e) (λb o _ _ hc e _=>⟨o.slots,k b o (λz=>hc (by simp[z])) e⟩) (λ_ _ _ _ n=>n) (λb o hc e=>⟨o,k b o (λz=>hc (by simp[z])) e⟩) (λ_ _ e=>e) (λ_ _ _ e=>e) (λb ps e=>(by rw[e])) (λm hm=>?_) (λb u e=>?_) I.bare
 ·have e:b=it:=by simpa using hb
  subst e;exact⟨h1,a,h2,h3⟩
 ·obtain⟨o,es,ep,f,r⟩:=hm;exact⟨o,es,ep,k _ o (Ne.symm a) f,r⟩
 ·refine(I.b9 b u e).mP (λc v hc q=>k c v ?_ q) (λ_ q=>q) λ_ _ q=>q;rcases hc with z|z;·rw[z];exact d b u e
  ·exact d c _ z
theorem Inv.tok(I:Inv X pins σ H s)(t:Nat):Inv X pins σ H {s with toks:=t}:=I.un (h':=s.heap) (t':=t) Un.refl I.b9
theorem Inv.kept{t':Nat}(I:Inv X pins σ H s)(k:∀b u,s.heap.get? b=some u->h'.get? b=some u):Inv X pins σ H {s with heap:=h',toks:=t'}:=I.un (Un.kept k) (I.b9.kept k)
theorem Inv.laid{a:Addr}{o:HO}{t':Nat}(I:Inv X pins σ H s)(k:∀b u,s.heap.get? b=some u->h'.get? b=some u)(hp:s.heap.objs.size<=a)(new:cI X.prog X.w (upd H a o) h' a o):Inv X pins σ (upd H a o) {s with heap:=h',toks:=t'}:=I.un (Un.laid k hp (I.b9.fresh hp)) (I.b9.laid k hp new)
theorem Inv.write{x e:Addr}{o:HO}{t':Nat}(I:Inv X pins σ H s)(d:Mut (H x))(a:e=x\/H e=some (.own x))(k:∀b u,b≠e->s.heap.get? b=some u->h'.get? b=some u)(c:∃u,h'.get? e=some u)(new:cI X.prog X.w (upd H x o) h' x o):Inv X pins σ (upd H x o) {s with heap:=h',toks:=t'}:=I.un (Un.write d a k c) (I.b9.write d a k c new)
theorem Inv.weak{a:List (Option V)}(I:Inv X pins σ H s)(hl:a.length=σ.length)(w:∀(i:Nat)v,a[i]?=some (some v)->σ[i]?=some (some v)):Inv X pins a H s:=⟨I.ok,I.os,I.bare,I.base,let⟨m,hn,b⟩:=I.loc;⟨m,hn,λi x v e1 e2 e3=>b i x v e1 (w i v e2) e3⟩,I.cell,I.free,I.fe,I.pin,I.b9,hl.trans I.len⟩
theorem Inv.vn{a:List (Addr×Obj)}(I:Inv X pins σ H s)(h:∀p∈a,s.heap.get? p.1=some p.2/\H p.1=none/\p.1≠X.env.locals/\p.1∉X.fs/\∀v,p.2.data≠ .cell v):Inv X a σ H s:=⟨I.ok,I.os,I.bare,I.base,I.loc,I.cell,I.free,I.fe,λp hp=>(List.mem_append.mp hp).elim (λz=>I.pin p (qP _ z)) (h p),I.b9,I.len⟩
theorem yj{N:List Str}(c:N.Nodup){i j:Nat}{x:Str}(a:N[i]?=some x)(b:N[j]?=some x):i=j:=by obtain⟨h1,e1⟩:=List.getElem?_eq_some_iff.mp a;obtain⟨h2,e2⟩:=List.getElem?_eq_some_iff.mp b;exact(List.getElem_inj c).mp (e1.trans e2.symm)
theorem Al{M:Model}{A:Around}{E:Value->Shared->Prop}{i:Nat}{x:Str}{v:V}{u:Value}{Q:Unit->Shared->Prop}(I:Inv X pins σ H s)(K:X.N.Nodup)(hi:X.N[i]?=some x)(g:Loc X.env.scope x)(r:RelV v u)(h:∀s',Inv X pins (σ.set i (some v)) H s'->(∃a,Heap.SameBut a s.heap s'.heap/\(a=X.env.locals\/X.env.cells.lookup x=some a))->Q () s')(hf:X.fn x=true\/X.env.scope.names.lookup x=some .local:=by first|exact .inl rfl|exact .inr rfl|assumption):wpAny M A (storeName X.env x u) Q E s:=by
 obtain⟨m,hn,hl⟩:=id I.loc;have S:(X.env.scope.kind== .class||(X.env.scope.kind== .module&&X.env.locals !=X.env.globals))=false:=by rw[I.ok.kind];rfl
 have P:i<σ.length:=by rw[I.len];exact(List.getElem?_eq_some_iff.mp hi).1
 have Uh:=I.Uh;have tracked:∀{a:Addr}{h':Heap},(∃o,s.heap.get? a=some o/\H a=none)->Heap.SameBut a s.heap h'->jN X.prog X.w H h':=λ{a h'}ha f b ob e=>by
  obtain⟨_,_,O⟩:=ha;refine(I.b9 b ob e).mP (λc B hc q=>(f.2 c ?_).trans q) (λ_ q=>q) λ_ _ q=>q;rintro rfl;rcases hc with rfl|hc;·rw[O]at e;cases e
  ·rw[O]at hc;cases hc
 rcases g with l|l
 ·refine wpAny_storeName_local l hn (λh' T f=>?_) S;obtain⟨Y,_,_,U,_⟩:=id hn;refine h _ ⟨I.ok,I.os,I.bare,⟨λb o e n hb g=>?_,λb o e n hb g=>?_,I.base.free,λb o e g=>?_,I.base.xJ,I.base.qZ,I.base.qY⟩,⟨_,T,λj y J e1 e2 e3=>?_⟩,λy c e=>?_,I.free,I.fe,λp hp=>?_,tracked ⟨Y,U,I.free⟩ f,by simpa using I.len⟩ ⟨_,f, .inl rfl⟩;·exact(f.2 b (eg (gK (bT e) I.ok.above))).trans (I.base.keep b o e n hb g)
  ·obtain⟨sl,e1⟩:=I.base.slot b o e n hb g;exact⟨sl,(f.2 b (eg (gK (bT e) I.ok.above))).trans e1⟩
  ·obtain⟨o',e1⟩:=I.base.there b o e g;exact⟨o',(f.2 b (eg (gK (bT e) I.ok.above))).trans e1⟩
  ·by_cases t:j=i;·subst t;rw[hi]at e1;cases e1;rw[List.getElem?_set_self P]at e2;cases e2;exact⟨u,r, .inl ⟨l,by simp⟩⟩
   ·rw[List.getElem?_set_ne (Ne.symm t)]at e2;obtain⟨G,F,q⟩:=hl j y J e1 e2 e3;refine⟨G,F,?_⟩;rcases q with⟨k,e⟩|⟨k,c,e,z⟩;·refine .inl ⟨k,?_⟩;have :y≠x:=λe=>t (yj K e1 (e▸hi));simp[this,e]
    ·exact .inr ⟨k,c,e,z.sameBut f (Uh y c e)⟩
  ·obtain⟨B,z⟩:=I.cell y c e;exact⟨B,z.sameBut f (Uh y c e)⟩
  ·obtain⟨e,n,ne,D,d⟩:=I.pin p hp;exact⟨(f.2 p.1 ne).trans e,n,ne,D,d⟩
 ·have C:X.fn x=true:=by
   rcases hf with z|z;·exact z
   ·rw[z]at l;cases l
  obtain⟨c,hc⟩:=I.ok.has x (.inl l);obtain⟨B,z⟩:=I.cell x c hc;refine wpAny_storeName_cell I.ok.kind l hc z (λh' L f=>?_);obtain⟨oc,R,W⟩:=id z;refine h {s with heap:=h'} ⟨I.ok,I.os,I.bare,⟨λb o e n hb g=>?_,λb o e n hb g=>?_,I.base.free,λb o e g=>?_,I.base.xJ,I.base.qZ,I.base.qY⟩,⟨m,hn.sameBut f (Ne.symm (Uh x c hc)),λj y J e1 e2 e3=>?_⟩,λy w e=>?_,I.free,I.fe,λp hp=>?_,tracked ⟨oc,R,I.fe x c hc⟩ f,by simpa using I.len⟩ ⟨c,f, .inr hc⟩;·exact(f.2 b (eg (gK (bT e) (I.ok.UB x c C hc)))).trans (I.base.keep b o e n hb g)
  ·obtain⟨sl,e1⟩:=I.base.slot b o e n hb g;exact⟨sl,(f.2 b (eg (gK (bT e) (I.ok.UB x c C hc)))).trans e1⟩
  ·obtain⟨o',e1⟩:=I.base.there b o e g;exact⟨o',(f.2 b (eg (gK (bT e) (I.ok.UB x c C hc)))).trans e1⟩
  ·by_cases t:j=i;·subst t;rw[hi]at e1;cases e1;rw[List.getElem?_set_self P]at e2;cases e2;exact⟨u,r, .inr ⟨.inl l,c,hc,L⟩⟩
   ·rw[List.getElem?_set_ne (Ne.symm t)]at e2;obtain⟨G,F,q⟩:=hl j y J e1 e2 e3;refine⟨G,F,?_⟩;rcases q with q|⟨k,w,e,z'⟩;·exact .inl q
    ·refine .inr ⟨k,w,e,z'.sameBut f ?_⟩;rintro rfl;exact t (yj K e1 (I.ok.inj _ _ _ e hc▸hi))
  ·by_cases N:w=c;·subst N;exact⟨_,L⟩
   ·obtain⟨w2,z2⟩:=I.cell y w e;exact⟨w2,z2.sameBut f N⟩
  ·obtain⟨e,n,ne,D,d⟩:=I.pin p hp;refine⟨(f.2 p.1 ?_).trans e,n,ne,D,d⟩;intro q;rw[q,R]at e;have Z:oc=p.2:=Option.some.inj e;exact d B (by rw[<-Z];exact W)
theorem iL{M:Model}{A:Around}{E:Value->Shared->Prop}{i:Nat}{x:Str}{v:V}{u:Value}{Q:Unit->Shared->Prop}(I:Inv X pins σ H s)(b:X.N.Nodup)(hi:X.N[i]?=some x)(c:Loc X.env.scope x)(r:RelV v u)(h:∀s',Inv X pins (σ.set i (some v)) H s'->Q () s')(hf:X.fn x=true\/X.env.scope.names.lookup x=some .local:=by first|exact .inl rfl|exact .inr rfl|assumption):wpAny M A (storeName X.env x u) Q E s:=Al I b hi c r (λs' a _=>h s' a) hf
theorem Inv.Ol{s':Shared}{ch:List Addr}(I:Inv X pins σ H s)(f:s'.os=s.os)(u:Un (jQ X.stack) ch H H' s.heap s'.heap)(b9:jN X.prog X.w H' s'.heap)(d:AllBare s'.gens)(a:∀b∈ch,(b∈X.ex\/X.cC.heap.objs.size<=b)/\b≠X.env.locals/\(∀x c,X.env.cells.lookup x=some c->c≠b)/\∀p∈X.pn++pins,p.1≠b):Inv X pins σ H' s':=by obtain⟨h',g',d',t',o'⟩:=s';have e:o'=s.os:=f;subst e;exact I.call (g':=g') (t':=t') (d':=d') u b9 d a
end
noncomputable abbrev XK:=Value->Option Addr->Hp->Prop
noncomputable abbrev St:=List (Option V)
noncomputable abbrev VK:=V->Hp->Prop
noncomputable abbrev TE:=St->Hp->VK->Prop
noncomputable abbrev TT:=St->Hp->(Bool->Hp->Prop)->Prop
noncomputable abbrev TA:=St->Hp->(List V->Hp->Prop)->Prop
structure Ends where
 nx:St->Hp->Prop
 rt:VK
 bk:St->Hp->Prop:=λ_ _=>False
 ct:St->Hp->Prop:=λ_ _=>False
noncomputable abbrev TS:=Ends->St->Hp->Prop
def EP(X:Cx)(pins:List (Addr×Obj))(σ:St)(Q:VK)(u:Value)(s':Shared):Prop:=∃v H',Inv X pins σ H' s'/\RelV v u/\Q v H'
def TP(X:Cx)(pins:List (Addr×Obj))(σ:St)(Q:Bool->Hp->Prop)(b:Bool)(s':Shared):Prop:=∃H',Inv X pins σ H' s'/\Q b H'
def AP(X:Cx)(pins:List (Addr×Obj))(σ:St)(Q:List V->Hp->Prop)(us:List Value)(s':Shared):Prop:=∃vs H',Inv X pins σ H' s'/\Vals vs us/\Q vs H'
noncomputable def SP(X:Cx)(pins:List (Addr×Obj))(D:Ends)(f:Flow)(s':Shared):Prop:=match f with| .next=>∃a H',Inv X pins a H' s'/\D.nx a H'| .brk=>∃a H',Inv X pins a H' s'/\D.bk a H'| .cont=>∃a H',Inv X pins a H' s'/\D.ct a H'| .ret u=>∃v a H',Inv X pins a H' s'/\RelV v u/\D.rt v H'
noncomputable def PE(X:Cx)(e:Expr)(t:TE):Prop:=∀(pins:List (Addr×Obj))(s:Shared)(σ:St)(H:Hp)(Q:VK),Inv X pins σ H s->t σ H Q->wpAny (model X.prog X.w) X.A (eval e X.env) (EP X pins σ Q) X.xe s
noncomputable def PT(X:Cx)(e:Expr)(t:TT):Prop:=∀(pins:List (Addr×Obj))(s:Shared)(σ:St)(H:Hp)(Q:Bool->Hp->Prop),Inv X pins σ H s->t σ H Q->wpAny (model X.prog X.w) X.A (isTrue e X.env (eval e X.env)) (TP X pins σ Q) X.xe s
noncomputable def PW(X:Cx)(e:Expr)(t:TT):Prop:=∀(whole:Sem Value)(pins:List (Addr×Obj))(s:Shared)(σ:St)(H:Hp)(Q:Bool->Hp->Prop),Inv X pins σ H s->t σ H Q->wpAny (model X.prog X.w) X.A (isTrue e X.env whole) (TP X pins σ Q) X.xe s
theorem PW.pt{X:Cx}{e:Expr}{t:TT}(h:PW X e t):PT X e t:=h _
noncomputable def PA(X:Cx)(es:List Expr)(t:TA):Prop:=∀(a:Pos)(pins:List (Addr×Obj))(s:Shared)(σ:St)(H:Hp)(Q:List V->Hp->Prop),Inv X pins σ H s->t σ H Q->wpAny (model X.prog X.w) X.A (spliced (backTo a (starEach es X.env))) (AP X pins σ Q) X.xe s
noncomputable def PS(X:Cx)(st:Stmt)(t:TS):Prop:=∀(pins:List (Addr×Obj))(s:Shared)(σ:St)(H:Hp)(D:Ends),Inv X pins σ H s->t D σ H->wpAny (model X.prog X.w) X.A (exec st X.env) (SP X pins D) X.xe s
noncomputable def iz(X:Cx)(st:List Stmt)(t:TS):Prop:=∀(pins:List (Addr×Obj))(s:Shared)(σ:St)(H:Hp)(D:Ends),Inv X pins σ H s->t D σ H->wpAny (model X.prog X.w) X.A (execs st X.env) (SP X pins D) X.xe s
theorem bX{c:Type}{t:Sem c}{Q b:c->Shared->Prop}{M:Model}{A:Around}{E:Value->Shared->Prop}{s:Shared}(h:wpAny M A t Q E s)(d:∀a s,Q a s->b a s):wpAny M A t b E s:=gm h d λ_ _ x=>x
section
variable{X:Cx}
noncomputable def Zs(i:Nat):TE:=λσ H Q=>∃v,σ[i]?=some (some v)/\Q v H
noncomputable def tC(v:V):TE:=λ_ H Q=>Q v H
theorem RH{i:Nat}{x:Str}{j:Pos}(d:X.N[i]?=some x)(g:Vis X.env.scope x)(hd:(x==("__debug__":Str))=false:=by decide)(f:(x==("__classdict__":Str))=false:=by decide):PE X (.Name x j) (Zs i):=by
 intro pins s σ H Q I h;obtain⟨v,e,h⟩:=h;obtain⟨m,hn,hl⟩:=I.loc;obtain⟨u,r,l⟩:=hl i x v d e g;have fin:EP X pins σ Q u s:=⟨v,H,I,r,h⟩;rcases l with⟨a,hm⟩|⟨a,c,hc,b⟩;·exact wpAny_Name (wpAny_loadName_local I.ok.kind a hn hm fin) hd
 ·rcases a with a|a;·exact wpAny_Name (wpAny_loadName_cell I.ok.kind a hc b fin) hd
  ·exact wpAny_Name (wpAny_loadName_free I.ok.kind a hc b fin f) hd
theorem ah{i j a}:PE X (.Constant (.int i) j a) (tC (.int i)):=λ_ _ _ H _ I h=>wpAny_Constant_int ⟨.int i,H,I.tok _,⟨_,rfl⟩,h⟩
theorem AQ{b j a}:PE X (.Constant (.bool b) j a) (tC (.bl b)):=λ_ _ _ H _ I h=>Constant_bool ⟨.bl b,H,I,rfl,h⟩
theorem iu{j a}:PE X (.Constant .none j a) (tC .aW):=λ_ _ _ H _ I h=>Constant_none ⟨.aW,H,I,rfl,h⟩
theorem ao{x j a}:PE X (.Constant (.str x) j a) (tC (.str x)):=λ_ _ _ H _ I h=>Calls.Constant_str ⟨.str x,H,I.tok _,⟨_,rfl⟩,h⟩
def Gl(X:Cx)(x:Str):Prop:=X.env.kindOf x=some .globalImplicit
theorem jg{E:Value->Shared->Prop}{pins:List (Addr×Obj)}{s:Shared}{σ:St}{H:Hp}{x:Str}{u:Value}{b:Pos}{Q:Value->Shared->Prop}(I:Inv X pins σ H s)(a:Gl X x)(hm:X.mg x=some u)(h:Q u s)(hd:(x==("__debug__":Str))=false:=by decide):wpAny (model X.prog X.w) X.A (eval (.Name x b) X.env) Q E s:=Calls.Name_function_global I.ok.kind a (Calls.loadGlobal_global (by rw[I.ok.glob];exact I.mod.glob.keeps I.bk) hm h) hd
theorem lT{E:Value->Shared->Prop}{pins:List (Addr×Obj)}{s:Shared}{σ:St}{H:Hp}{x:Str}{u:Value}{c:Pos}{Q:Value->Shared->Prop}(I:Inv X pins σ H s)(a:Gl X x)(hm:X.mg x=none)(b:bootBuiltins x=some u)(h:Q u s)(hn:x≠"__name__":=by decide)(hd:(x==("__debug__":Str))=false:=by decide):wpAny (model X.prog X.w) X.A (eval (.Name x c) X.env) Q E s:=by obtain⟨mb,h1,h2⟩:=I.mod.blt;exact Calls.Name_function_global I.ok.kind a (Calls.loadGlobal_builtin (by rw[I.ok.glob];exact I.mod.glob.keeps I.bk) hm (by rw[I.ok.blt];exact h1.keeps I.bk) ((h2 x hn).trans b) h) hd
theorem K_{x:Str}{v:V}{u:Value}{b:Pos}(a:Gl X x)(hm:X.mg x=some u)(r:RelV v u)(hd:(x==("__debug__":Str))=false:=by decide):PE X (.Name x b) (tC v):=λ_ _ _ H _ I h=>jg I a hm ⟨v,H,I,r,h⟩ hd
theorem Te{x:Str}{v:V}{u:Value}{c:Pos}(a:Gl X x)(hm:X.mg x=none)(b:bootBuiltins x=some u)(r:RelV v u)(hn:x≠"__name__":=by decide)(hd:(x==("__debug__":Str))=false:=by decide):PE X (.Name x c) (tC v):=λ_ _ _ H _ I h=>lT I a hm b ⟨v,H,I,r,h⟩ hn hd
variable{a b:Expr}{ta tb:TE}{pos:Pos}
noncomputable def PC(X:Cx)(op:CmpOp)(a b:Expr)(t:TE):Prop:=∀(pins:List (Addr×Obj))(s:Shared)(σ:St)(H:Hp)(Q:VK),Inv X pins σ H s->t σ H Q->wpAny (model X.prog X.w) X.A (eval a X.env) (λv c=>wpAny (model X.prog X.w) X.A (eval b X.env) (λu d=>wpAny (model X.prog X.w) X.A (compareOp op v u) (EP X pins σ Q) X.xe d) X.xe c) X.xe s
noncomputable def tB(t:TE):TT:=λσ H Q=>t σ H λx d=>∃c,x= .bl c/\Q c d
theorem XF{op:CmpOp}{t:TE}(h:PC X op a b t)(h1:behindInMarks op b=false:=by first|exact c _ (by decide) (by decide)|rfl):PE X (.Compare a [op] [b] pos) t:=λpins s σ H Q I hw=>wpAny_Compare1 (h pins s σ H Q I hw) h1
theorem Pb{op:CmpOp}{t:TE}(h:PC X op a b t)(h1:behindInMarks op b=false:=by first|exact j _ (by decide) (by decide)|rfl):PT X (.Compare a [op] [b] pos) (tB t):=by intro pins s σ H Q I hw;refine wpAny_isTrue_Compare1 (bX (h pins s σ H _ I hw) λv s1 h1=>bX h1 λu s2 h2=>bX h2 λc k i=>?_) h1;obtain⟨x,e,f,g,q1⟩:=i;obtain⟨d,rfl,q⟩:=q1;cases g;exact wpAny_truthy_bool ⟨e,f,q⟩
theorem gL{e:Expr}{t:TE}(h:PE X e t)(g:∀whole,isTrue e X.env whole=(do let v<-whole;standAt e.pos;holding [v] (truthy v)):=by intro _;rfl):PT X e (tB t):=by intro pins s σ H Q I hw;refine isTrue_plain (bX (h pins s σ H _ I hw) λv s1 j=>?_) (g _);obtain⟨x,c,f,i,q1⟩:=j;obtain⟨d,rfl,q⟩:=q1;cases i;exact wpAny_truthy_bool ⟨c,f,q⟩
variable{tA tB':TT}{rest:List Expr}
noncomputable def aeT(t u:TT):TT:=λσ H Q=>t σ H λc d=>if c=true then u σ d Q else Q false d
noncomputable def tOr(t u:TT):TT:=λσ H Q=>t σ H λc d=>if c=true then Q true d else u σ d Q
noncomputable def afx(t:TT):TT:=λσ H Q=>t σ H λc d=>Q (!c) d
theorem vw(ha:PT X a tA):PW X (.BoolOp .And [a] pos) tA:=by intro d pins s σ H Q I h;refine isTrue_and (bX (ha pins s σ H Q I h) λc s1 e=>?_);cases c with|true=>exact isTrue_and_nil e|false=>exact e
theorem j1(ha:PT X a tA):PW X (.BoolOp .Or [a] pos) tA:=by intro d pins s σ H Q I h;refine isTrue_or (bX (ha pins s σ H Q I h) λc s1 e=>?_);cases c with|false=>exact isTrue_or_nil e|true=>exact e
theorem Cw(ha:PT X a tA)(hb:PW X (.BoolOp .And (b::rest) pos) tB'):PW X (.BoolOp .And (a::b::rest) pos) (aeT tA tB'):=by intro f pins s σ H Q I h;refine isTrue_and (bX (ha pins s σ H _ I h) λc s1 g=>?_);obtain⟨d,e,q1⟩:=g;cases c with|true=>exact hb f pins s1 σ d Q e q1|false=>exact⟨d,e,q1⟩
theorem kW(ha:PT X a tA)(hb:PW X (.BoolOp .Or (b::rest) pos) tB'):PW X (.BoolOp .Or (a::b::rest) pos) (tOr tA tB'):=by intro f pins s σ H Q I h;refine isTrue_or (bX (ha pins s σ H _ I h) λc s1 g=>?_);obtain⟨d,e,q1⟩:=g;cases c with|true=>exact⟨d,e,q1⟩|false=>exact hb f pins s1 σ d Q e q1
theorem pq(ha:PT X a tA):PT X (.UnaryOp .Not a pos) (afx tA):=by intro pins s σ H Q I h;exact isTrue_not (ha pins s σ H (λc d=>Q (!c) d) I h)
noncomputable def abx(ta tb:TE):TE:=λσ H Q=>ta σ H λx d=>∃c,x= .bl c/\if c=true then tb σ d Q else Q (.bl false) d
noncomputable def afj(ta tb:TE):TE:=λσ H Q=>ta σ H λx d=>∃c,x= .bl c/\if c=true then Q (.bl true) d else tb σ d Q
noncomputable def aaZ(ta:TE):TE:=λσ H Q=>ta σ H λx d=>∃c,x= .bl c/\Q (.bl (!c)) d
theorem xA{op}{t:TE}(h:PE X a t):PE X (.BoolOp op [a] pos) t:=λpins s σ H Q I hw=>BoolOp_one (h pins s σ H Q I hw)
theorem GY(ha:PE X a ta)(hb:PE X (.BoolOp .And (b::rest) pos) tb):PE X (.BoolOp .And (a::b::rest) pos) (abx ta tb):=by intro pins s σ H Q I h;refine BoolOp_and (bX (ha pins s σ H _ I h) λv s1 g=>?_);obtain⟨x,d,e,f,q1⟩:=g;obtain⟨c,rfl,q1⟩:=q1;cases f;refine wpAny_truthy_bool ?_;cases c with|true=>exact hb pins s1 σ d Q e q1|false=>exact⟨.bl false,d,e,rfl,q1⟩
theorem Q9(ha:PE X a ta)(hb:PE X (.BoolOp .Or (b::rest) pos) tb):PE X (.BoolOp .Or (a::b::rest) pos) (afj ta tb):=by intro pins s σ H Q I h;refine BoolOp_or (bX (ha pins s σ H _ I h) λv s1 g=>?_);obtain⟨x,d,e,f,q1⟩:=g;obtain⟨c,rfl,q1⟩:=q1;cases f;refine wpAny_truthy_bool ?_;cases c with|false=>exact hb pins s1 σ d Q e q1|true=>exact⟨.bl true,d,e,rfl,q1⟩
theorem XR(ha:PE X a ta):PE X (.UnaryOp .Not a pos) (aaZ ta):=by intro pins s σ H Q I h;refine UnaryOp_ (bX (ha pins s σ H _ I h) λv s1 g=>?_);obtain⟨x,d,e,f,q1⟩:=g;obtain⟨c,rfl,q1⟩:=q1;cases f;exact not_of (wpAny_truthy_bool ⟨.bl (!c),d,e,rfl,q1⟩)
noncomputable def tIf(t:TT)(ta tb:TE):TE:=λσ H Q=>t σ H λc d=>if c=true then ta σ d Q else tb σ d Q
theorem ky{c:Expr}(hc:PT X c tA)(ha:PE X a ta)(hb:PE X b tb):PE X (.IfExp c a b pos) (tIf tA ta tb):=by intro pins s σ H Q I h;refine wpAny_IfExp (bX (hc pins s σ H _ I h) λd s1 g=>?_);obtain⟨e,f,q1⟩:=g;cases d with|true=>exact ha pins s1 σ e Q f q1|false=>exact hb pins s1 σ e Q f q1
end
noncomputable def bH(K:PySem.W.Frag)(H:Hp)(a:Addr)(xs:List V):Prop:=Rd H a (.lst xs)\/∃(o:Obj)(b:Array Value)(n:Nat),K.lookup a=some o/\o.cls= .type "list"/\o.dict=none/\o.data= .seq b n/\b.size<=sizeLine/\Vals xs b.toList
noncomputable def bS(K:PySem.W.Frag)(H:Hp)(a:Addr)(xs:List V):Prop:=Rd H a (.tup xs)\/∃(o:Obj)(b:Array Value)(n:Nat),K.lookup a=some o/\o.cls= .type "tuple"/\o.data= .seq b n/\b.size<=sizeLine/\Vals xs b.toList
noncomputable def afp:Value->Option V| .none=>some .aW| .bool b=>some (.bl b)| .int i _=>some (.int i)| .str x _=>some (.str x)| .bytes b _=>some (.NA b)| .float b _=>some (.Z9 b)| .ref a=>some (.ref a)| .type n=>some (.ty n)|_=>none
theorem RelV.abs{x:V}{u:Value}(r:RelV x u):afp u=some x:=by cases x with|aW=>cases r;rfl|bl _=>cases r;rfl|int _=>obtain⟨t,rfl⟩:=r;rfl|str _=>obtain⟨t,rfl⟩:=r;rfl|NA _=>obtain⟨t,rfl⟩:=r;rfl|Z9 _=>obtain⟨t,rfl⟩:=r;rfl|ref _=>cases r;rfl|ty _=>cases r;rfl
theorem RelV.inj{x y:V}{u:Value}(r:RelV x u)(q:RelV y u):x=y:=Option.some.inj (r.abs.symm.trans q.abs)
theorem Vals.inj:∀{xs a:List V}{us:List Value},Vals xs us->Vals a us->xs=a|_,_,_, .nil, .nil=>rfl|_,_,_, .cons r t, .cons b t'=>by rw[r.inj b,Vals.inj t t']
section
variable{X:Cx}{pins:List (Addr×Obj)}{σ:St}{H:Hp}{s:Shared}{a:Addr}{xs ys:List V}
theorem bH.of{K:PySem.W.Frag}(h:H a=some (.lst xs)):bH K H a xs:= .inl (.inl h)
theorem bS.of{K:PySem.W.Frag}(h:H a=some (.tup xs)):bS K H a xs:= .inl (.inl h)
theorem Inv.list(I:Inv X pins σ H s)(h:bH X.K H a xs):∃b:List Value,Vals xs b/\PlainL s.heap a b.toArray/\xs.length<=sizeLine:=by
 rcases h with h|⟨o,b,n,c,hc,hd,d,f,r⟩;·obtain⟨z,b,n,r,e⟩:=h.ok I.b9;exact⟨b,r,⟨_,n,e,rfl,rfl,rfl⟩,z⟩
 ·refine⟨b.toList,r,⟨o,n,I.kI a o c,hc,hd,by simpa using d⟩,?_⟩;have e:=r.length;simp only[Array.length_toList]at e;lia
theorem Inv.tuple(I:Inv X pins σ H s)(h:bS X.K H a xs):∃b:List Value,Vals xs b/\IsTup s.heap a b.toArray/\xs.length<=sizeLine:=by
 rcases h with h|⟨o,b,n,c,hc,d,f,r⟩;·obtain⟨z,b,r,p⟩:=h.ok I.b9;exact⟨b,r,p,z⟩
 ·refine⟨b.toList,r,⟨o,I.kI a o c,hc,n,by simpa using d⟩,?_⟩;have e:=r.length;simp only[Array.length_toList]at e;lia
theorem Inv.mw(I:Inv X pins σ H s)(h:bH X.K H a xs)(h':bH X.K H a ys):xs=ys:=by
 obtain⟨c,r,⟨o,n,e,_,_,d⟩,_⟩:=I.list h;obtain⟨its',f,⟨o',g,e',_,_,d'⟩,_⟩:=I.list h';rw[e]at e';cases e';rw[d]at d';injection d' with b _;have :c=its':=by simpa using congrArg Array.toList b
 subst this;exact r.inj f
theorem Inv.L0(I:Inv X pins σ H s)(h:bS X.K H a xs)(h':bS X.K H a ys):xs=ys:=by
 obtain⟨c,r,⟨o,e,_,n,d⟩,_⟩:=I.tuple h;obtain⟨its',f,⟨o',e',_,g,d'⟩,_⟩:=I.tuple h';rw[e]at e';cases e';rw[d]at d';injection d' with b _;have :c=its':=by simpa using congrArg Array.toList b
 subst this;exact r.inj f
end
noncomputable abbrev Cx.yW(X:Cx)(E:Value->Shared->Prop):Cx:={X with xe:=E}
noncomputable abbrev Cx.QS(X:Cx):Cx:=X.yW λ_ _=>False
theorem Cx.Ok.yW{X:Cx}(ok:X.Ok)(E:Value->Shared->Prop):(X.yW E).Ok:=⟨ok.mod,ok.kind,ok.glob,ok.blt,ok.above,ok.inj,ok.has,ok.UB,ok.hd,ok.frames,ok.YA,ok.YF,ok.bs,ok.FD,ok.zq,ok.A0,ok.jw,ok.Sh⟩
theorem Cx.Ok.gE{X:Cx}{E:Value->Shared->Prop}(ok:(X.yW E).Ok):X.Ok:=⟨ok.mod,ok.kind,ok.glob,ok.blt,ok.above,ok.inj,ok.has,ok.UB,ok.hd,ok.frames,ok.YA,ok.YF,ok.bs,ok.FD,ok.zq,ok.A0,ok.jw,ok.Sh⟩
section
variable{X:Cx}{pins:List (Addr×Obj)}{σ:St}{H:Hp}{s:Shared}{E:Value->Shared->Prop}
theorem Inv.yW(I:Inv X pins σ H s)(E:Value->Shared->Prop):Inv (X.yW E) pins σ H s:=⟨I.ok.yW E,I.os,I.bare,I.base,I.loc,I.cell,I.free,I.fe,I.pin,I.b9,I.len⟩
theorem Inv.gE(I:Inv (X.yW E) pins σ H s):Inv X pins σ H s:=⟨I.ok.gE,I.os,I.bare,I.base,I.loc,I.cell,I.free,I.fe,I.pin,I.b9,I.len⟩
theorem SP.gE{D:Ends}{f:Flow}{s':Shared}(h:SP (X.yW E) pins D f s'):SP X pins D f s':=by cases f with|next=>obtain⟨a,H',I,q⟩:=h;exact⟨a,H',I.gE,q⟩|brk=>obtain⟨a,H',I,q⟩:=h;exact⟨a,H',I.gE,q⟩|cont=>obtain⟨a,H',I,q⟩:=h;exact⟨a,H',I.gE,q⟩|ret u=>obtain⟨v,a,H',I,r,q⟩:=h;exact⟨v,a,H',I.gE,r,q⟩
theorem iz.QS{st:List Stmt}{t:TS}(h:iz X.QS st t):iz X st t:=λpins s σ H D I hw=>gm (h pins s σ H D (I.yW _) hw) (λ_ _ q=>q.gE) λ_ _ z=>False.elim z
end
section
variable{X:Cx}{st:Stmt}{rest:List Stmt}{t u:TS}{e:Expr}{te:TE}{pos:Pos}
noncomputable def WB:TS:=λD σ H=>D.nx σ H
noncomputable def bA(t u:TS):TS:=λD σ H=>t {D with nx:=u D} σ H
theorem aO:iz X [] WB:=λ_ _ σ H _ I h=>wpAny_execs_nil ⟨σ,H,I,h⟩
theorem ai(h1:PS X st t)(h2:iz X rest u):iz X (st::rest) (bA t u):=by intro pins s σ H D I h;refine wpAny_execs_cons (bX (h1 pins s σ H {D with nx:=u D} I h) λf s1 q=>?_);cases f with|next=>obtain⟨b,H',a,q⟩:=q;exact h2 pins s1 b H' D a q|ret v=>exact q|brk=>exact q|cont=>exact q
theorem aj(h1:PS X st t):iz X [st] t:=by intro pins s σ H D I h;refine wpAny_execs_cons (bX (h1 pins s σ H D I h) λf s1 q=>?_);cases f with|next=>exact wpAny_execs_nil q|ret v=>exact q|brk=>exact q|cont=>exact q
theorem Inv.quiet{pins:List (Addr×Obj)}{σ:St}{H:Hp}{s:Shared}(I:Inv X pins σ H s):interactive X.env=false:=by simp[interactive,I.ok.kind]
noncomputable def VO(te:TE):TS:=λD σ H=>te σ H λ_ a=>D.nx σ a
theorem i7(c:PE X e te)(d:swapsWith e none pos.line X.env=pure false:=by rfl):PS X (.Expr e pos) (VO te):=by intro pins s σ H D I h;exact wpAny_Expr_any (bX (c pins s σ H _ I h) λv s1⟨x,a,b,f,q1⟩=>⟨σ,a,b,q1⟩) I.quiet d
noncomputable def XO(te:TE):TS:=λD σ H=>te σ H D.rt
theorem ay(c:PE X e te):PS X (.Return (some e) pos) (XO te):=by intro pins s σ H D I h;exact wpAny_Return_some (bX (c pins s σ H _ I h) λv s1⟨x,a,b,d,q1⟩=>⟨x,σ,a,b,d,q1⟩)
noncomputable def adX(c:TT)(t u:TS):TS:=λD σ H=>c σ H λb a=>if b=true then t D σ a else u D σ a
theorem ba{c:Expr}{a b:List Stmt}{i:TT}(hc:PT X c i)(ha:iz X a t)(hb:iz X b u):PS X (.If c a b pos) (adX i t u):=by intro pins s σ H D I h;refine wpAny_If (bX (hc pins s σ H _ I h) λd s1 j=>?_);obtain⟨f,g,q1⟩:=j;cases d with|true=>exact ha pins s1 σ f D g q1|false=>exact hb pins s1 σ f D g q1
end
noncomputable abbrev TG:=V->St->Hp->(St->Hp->Prop)->Prop
noncomputable abbrev TGs:=List V->St->Hp->(St->Hp->Prop)->Prop
noncomputable def PG(X:Cx)(target:Expr)(t:TG):Prop:=∀(pins:List (Addr×Obj))(s:Shared)(σ:St)(H:Hp)(v:V)(u:Value)(Q:St->Hp->Prop),Inv X pins σ H s->RelV v u->t v σ H Q->wpAny (model X.prog X.w) X.A (assign target X.env u) (λ_ s'=>∃a H',Inv X pins a H' s'/\Q a H') X.xe s
noncomputable def AR(X:Cx)(ts:List Expr)(t:TGs):Prop:=∀(pins:List (Addr×Obj))(s:Shared)(σ:St)(H:Hp)(vs:List V)(us:List Value)(Q:St->Hp->Prop),Inv X pins σ H s->Vals vs us->t vs σ H Q->wpAny (model X.prog X.w) X.A (assignInOrder ((assignEach ts X.env).map (·.2)) us) (λ_ s'=>∃a H',Inv X pins a H' s'/\Q a H') X.xe s
noncomputable abbrev Zo:=V->V->V->Hp->(Hp->Prop)->Prop
noncomputable def aci(X:Cx)(t:Zo):Prop:=∀(pins:List (Addr×Obj))(s:Shared)(σ:St)(H:Hp)(o i v:V)(b a u:Value)(Q:Hp->Prop),Inv X pins σ H s->RelV o b->RelV i a->RelV v u->t o i v H Q->wpAny (model X.prog X.w) X.A (setItem b a u) (λ_ s'=>∃H',Inv X pins σ H' s'/\Q H') X.xe s
noncomputable abbrev TIp:=V->V->Hp->VK->Prop
noncomputable def PIp(X:Cx)(op:Operator)(t:TIp):Prop:=∀(pins:List (Addr×Obj))(s:Shared)(σ:St)(H:Hp)(x y:V)(v u:Value)(Q:VK),Inv X pins σ H s->RelV x v->RelV y u->t x y H Q->wpAny (model X.prog X.w) X.A (inplaceOp op v u) (EP X pins σ Q) X.xe s
section
variable{X:Cx}{pos:Pos}
noncomputable def j4(i:Nat):TG:=λv σ H Q=>Q (σ.set i (some v)) H
theorem bL{i:Nat}{x:Str}(b:X.N.Nodup)(hi:X.N[i]?=some x)(c:Loc X.env.scope x)(hf:X.fn x=true\/X.env.scope.names.lookup x=some .local:=by first|exact .inl rfl|exact .inr rfl|assumption):PG X (.Name x pos) (j4 i):=by intro pins s σ H v u Q I r h;exact wpAny_assign_Name (iL I b hi c r (λs' a=>⟨_,H,a,h⟩) hf)
noncomputable def ac4:TGs:=λvs σ H Q=>vs=[]/\Q σ H
noncomputable def Q8(t:TG)(u:TGs):TGs:=λvs σ H Q=>∃v r,vs=v::r/\t v σ H λa H'=>u r a H' Q
theorem wj:AR X [] ac4:=by intro pins s σ H vs us Q I r h;obtain⟨e,h⟩:=h;subst e;cases r;exact assignInOrder_nil ⟨σ,H,I,h⟩
theorem e8{e:Expr}{es:List Expr}{t:TG}{u:TGs}(h1:PG X e t)(h2:AR X es u)(c:(assignEach (e::es) X.env).map (·.2)=assign e X.env::(assignEach es X.env).map (·.2):=by rfl):AR X (e::es) (Q8 t u):=by intro pins s σ H vs us Q I r h;obtain⟨v,g,e1,h⟩:=h;subst e1;cases r with|cons r rr=>rw[c];refine assignInOrder_cons (bX (h1 pins s σ H _ _ _ I r h) λ_ s1 d=>?_);obtain⟨f,a,b,q1⟩:=d;exact h2 pins s1 f a _ _ Q b rr q1
noncomputable def abE(K:PySem.W.Frag)(n:Nat)(t:TGs):TG:=λv σ H Q=>∃a xs,v= .ref a/\bS K H a xs/\xs.length=n/\t xs σ H Q
theorem BP{es:List Expr}{k:Nat}{t:TGs}{n:Nat}(hc:X.calm=true)(h:AR X es t)(hn:(assignEach es X.env).length=n:=by rfl)(f:(assignEach es X.env).findIdx? (·.1)=none:=by rfl):PG X (.Tuple es k pos) (abE X.K n t):=by intro pins s σ H v u Q I r hw;obtain⟨a,xs,e1,hq,hl,hw⟩:=hw;subst e1;cases r;obtain⟨i,c,ht,j⟩:=I.tuple hq;refine Tv (I.hb hc) (show s.heap.IsTuple a i.toArray from ht) (by simp[hn,<-hl,c.length]) f λh' g=>?_;have d:Inv X pins σ H {s with heap:=h'}:=I.kept (t':=s.toks) λb o e=>g b o (eg (bT e)) e;exact h pins _ σ H xs _ Q d (by simpa using c) hw
noncomputable def aex(to d:TE)(t:Zo):TG:=λv σ H Q=>to σ H λo a=>d σ a λi b=>t o i v b λc=>Q σ c
theorem Ob{o i:Expr}{to d:TE}{t:Zo}(m:PE X o to)(hi:PE X i d)(n:aci X t)(ha:∀v,assign (.Subscript o i pos) X.env v=(do let a<-holding [v] (eval o X.env);let b<-holding [v,a] (eval i X.env);standAt pos;holding [v,a,b] (setItem a b v);release [v,a,b] []):=by intro _;rfl):PG X (.Subscript o i pos) (aex to d t):=by intro pins s σ H v u Q I r h;rw[ha];refine aA (jU (bX (m pins s σ H _ I h) λa s1 c=>?_));obtain⟨x,e,j,p,q1⟩:=c;refine aA (jU (bX (hi pins s1 σ e _ j q1) λb s2 c=>?_));obtain⟨y,f,k,q,q2⟩:=c;refine aA (wpAny_standAt (aA (jU (bX (n pins s2 σ f x y v a b u _ k p q r q2) λ_ w c=>?_))));obtain⟨g,l,q3⟩:=c;exact wpAny_release ⟨σ,g,l,q3⟩
noncomputable def Ur(b:TE)(g:TG):TS:=λD σ H=>b σ H λx a=>g x σ a D.nx
theorem G0{tg e:Expr}{a:TE}{g:TG}(d:PE X e a)(f:PG X tg g)(i:swapsWithSole [tg] e pos.line X.env=pure false:=by rfl)(hw:swappedStores [tg] e X.env=pure none:=by rfl)(h1:(assignEach [tg] X.env).map (·.2)=[assign tg X.env]:=by rfl):PS X (.Assign [tg] e pos) (Ur a g):=by intro pins s σ H D I h;refine wpAny_Assign_stores (bX (d pins s σ H _ I h) λv s1 k=>?_) i hw;obtain⟨x,b,c,j,q1⟩:=k;rw[h1];exact bX (f pins s1 σ b x v _ c j q1) λ_ s2 q=>q
theorem aF{i:Nat}{x:Str}{e:Expr}{a:TE}{pos':Pos}(f:X.N.Nodup)(hi:X.N[i]?=some x)(k:Loc X.env.scope x)(g:PE X e a)(j:swapsWith e (some (.Name x pos')) pos.line X.env=pure false:=by rfl)(hf:X.fn x=true\/X.env.scope.names.lookup x=some .local:=by first|exact .inl rfl|exact .inr rfl|assumption):PS X (.Assign [.Name x pos'] e pos) (Ur a (j4 i)):=by intro pins s σ H D I h;refine wpAny_Assign_Name (bX (g pins s σ H _ I h) λv s1 m=>?_) j;obtain⟨y,b,c,l,q1⟩:=m;exact iL c f hi k l (λs2 d=>⟨_,b,d,q1⟩) hf
noncomputable def adV(i:Nat)(c:TE)(d:TIp):TS:=λD σ H=>∃x,σ[i]?=some (some x)/\c σ H λy a=>d x y a λz b=>D.nx (σ.set i (some z)) b
theorem aaa{i:Nat}{x:Str}{e:Expr}{f:TE}{op:Operator}{g:TIp}{pos':Pos}(t:X.N.Nodup)(hi:X.N[i]?=some x)(b:Loc X.env.scope x)(B:PE X e f)(C:PIp X op g)(hf:X.fn x=true\/X.env.scope.names.lookup x=some .local:=by first|exact .inl rfl|exact .inr rfl|assumption):PS X (.AugAssign (.Name x pos') op e pos) (adV i f g):=by
 intro pins s σ H D I h;obtain⟨v,e1,h⟩:=h;obtain⟨m,hn,hl⟩:=I.loc;have K:Vis X.env.scope x:=by rcases b with k|k;exact .inl k;exact .inr (.inl k)
 obtain⟨u,r,l⟩:=hl i x v hi e1 K;refine wpAny_AugAssign_Name ?_;have go:wpAny (model X.prog X.w) X.A (eval e X.env) (λw G=>wpAny (model X.prog X.w) X.A (inplaceOp op u w) (λr J=>wpAny (model X.prog X.w) X.A (storeName X.env x r) (λ_=>SP X pins D .next) X.xe J) X.xe G) X.xe s:=by refine bX (B pins s σ H _ I h) λw s1 d=>?_;obtain⟨y,j,o,E,q1⟩:=d;refine bX (C pins s1 σ j v y u w _ o r E q1) λz s2 d=>?_;obtain⟨M,n,p,F,q2⟩:=d;exact iL p t hi b F (λL q=>⟨_,n,q,q2⟩) hf
 rcases l with⟨a,hm⟩|⟨a,c,hc,A⟩;·exact wpAny_loadName_local I.ok.kind a hn hm go
 ·rcases a with a|a;·exact wpAny_loadName_cell I.ok.kind a hc A go
  ·rcases b with k|k;·have :X.env.scope.names.lookup x=some .free:=a;rw[k]at this;cases this
   ·have :X.env.scope.names.lookup x=some .free:=a;rw[k]at this;cases this
noncomputable def ipI(f:Int->Int->Int):TIp:=λx y H Q=>∃i j,x= .int i/\y= .int j/\Q (.int (f i j)) H
theorem XH:PIp X .Add (ipI λi j=>i+j):=by intro pins s σ H x y v u Q I a b h;obtain⟨i,j,e1,e2,q⟩:=h;subst e1;subst e2;obtain⟨t,rfl⟩:=a;obtain⟨t',rfl⟩:=b;exact iadd_int ⟨.int _,H,I.tok _,⟨_,rfl⟩,q⟩
end
section
variable{X:Cx}{pos:Pos}
noncomputable def Yv(c:TT)(tb:TS):TS:=λD σ H=>∃W:Nat->St->Hp->Prop,(∃m,W m σ H)/\∀m σ H,W m σ H->c σ H λb a=>if b=true then∃N:St->Hp->Prop,(∀e H',N e H'->∃d,d<m/\W d e H')/\tb {D with nx:=N,ct:=N,bk:=D.nx} σ a else D.nx σ a
theorem xE{c:Expr}{body:List Stmt}{q:TT}{tb:TS}(hp:PassesOwn (model X.prog X.w) X.A X.env X.xe)(hc:PT X c q)(hb:iz X body tb):PS X (.While c body [] pos) (Yv q tb):=by
 intro pins s σ H D I h;obtain⟨W,⟨u,w0⟩,turn⟩:=h;refine wpAny_While (codeAny_whileLoop (λn s'=>∃r H',Inv X pins r H' s'/\W n r H') ?_ u ⟨σ,H,I,w0⟩);rintro n s1⟨e,l,t,w1⟩;refine wpAny_passesOwn hp (bX (hc pins s1 e l _ t (turn n e l w1)) λb s2 w=>?_);obtain⟨m,o,q2⟩:=w;cases b with
  |true=>obtain⟨N,p,q2⟩:=q2;rw[if_pos rfl];refine wpAny_passesOwn hp (bX (hb pins s2 e m _ o q2) λf x q3=>?_);cases f with|next=>obtain⟨d,a,g,j⟩:=q3;obtain⟨i,hm,k⟩:=p d a j;exact⟨i,hm,d,a,g,k⟩|cont=>obtain⟨d,a,g,j⟩:=q3;obtain⟨i,hm,k⟩:=p d a j;exact⟨i,hm,d,a,g,k⟩|brk=>exact q3|ret v=>exact q3
  |false=>rw[if_neg fQ];exact wpAny_execs_nil ⟨e,m,o,q2⟩
end
structure It where
 go:Nat->Hp->Prop
 zH:Nat->Hp->V->Hp->Prop
 stop:Nat->Hp->Prop
noncomputable def m8(X:Cx)(pins:List (Addr×Obj))(H:Hp)(b:Addr):Prop:=H b=none/\b≠X.env.locals/\b∉X.fs/\(b∈X.ex\/X.cC.heap.objs.size<=b)/\(∀x c,X.env.cells.lookup x=some c->c≠b)/\∀p∈X.pn++pins,p.1≠b
theorem Inv.QM{X:Cx}{pins:List (Addr×Obj)}{σ:St}{H H':Hp}{s:Shared}{b:Addr}(I:Inv X pins σ H s)(hb:s.heap.objs.size<=b)(hn:H' b=none):m8 X pins H' b:=by
 refine⟨hn,Nat.ne_of_gt (gK I.lt hb),I.ad6 hb, .inr (c8 I.sz hb),λx c e z=>?_,λp hp z=>?_⟩;·obtain⟨v,q⟩:=I.cell x c e;exact absurd (gK q.lt (by rw[z];exact hb)) (Nat.lt_irrefl _)
 ·exact absurd (gK (bT (I.pin p hp).1) (by rw[z];exact hb)) (Nat.lt_irrefl _)
structure Turn(P:Program)(w:World)(K:PySem.W.Frag)(tg:Expr)(J:It)(fp:List Addr)(it:Addr)(tn:Nat->Heap->Prop):Prop where
 mem:it∈fp
 obj:∀i h,tn i h->∀b∈fp,∃o,h.get? b=some o/\∀v,o.data≠ .cell v
 keep:∀i h h',tn i h->(∀b∈fp,∀o,h.get? b=some o->h'.get? b=some o)->tn i h'
 item:∀(X:Cx),X.prog=P->X.w=w->X.K=K->X.calm=true->∀(i:Nat)(pins:List (Addr×Obj))(s:Shared)(σ:St)(H:Hp)(E:Value->Shared->Prop),Inv X pins σ H s->(∀b∈fp,m8 X pins H b)->tn i s.heap->J.go i H->wpAny (model P w) X.A (pyNext (.ref it)) (λr s1=>∃u,r=some u/\wpAny (model P w) X.A (letOwnedTupleGo tg (.ref it) u) (λ_ s2=>∃x H',Inv X pins σ H' s2/\RelV x u/\J.zH i H x H'/\tn (i+1) s2.heap/\∀b∈fp,H' b=none) E s1) E s
 done:∀(X:Cx),X.prog=P->X.w=w->X.K=K->X.calm=true->∀(i:Nat)(pins:List (Addr×Obj))(s:Shared)(σ:St)(H:Hp)(E:Value->Shared->Prop),Inv X pins σ H s->(∀b∈fp,m8 X pins H b)->tn i s.heap->J.stop i H->wpAny (model P w) X.A (pyNext (.ref it)) (λr s1=>r=none/\Inv X pins σ H s1) E s
 self:∀(A:Around)(i:Nat)(s:Shared)(Q:Value->Shared->Prop)(E:Value->Shared->Prop),tn i s.heap->Q (.ref it) s->wpAny (model P w) A (pyIter (.ref it)) Q E s
noncomputable abbrev TI:=St->Hp->(It->Hp->Prop)->Prop
noncomputable def PIE(X:Cx)(pins:List (Addr×Obj))(σ:St)(tg:Expr)(R:It->Hp->Prop)(a:Value)(s2:Shared):Prop:=∃(it:Addr)(fp:List Addr)(tn:Nat->Heap->Prop)(J:It)(H':Hp),a= .ref it/\Inv X pins σ H' s2/\Turn X.prog X.w X.K tg J fp it tn/\tn 0 s2.heap/\(∀b∈fp,m8 X pins H' b)/\R J H'
noncomputable def PI(X:Cx)(tg iter:Expr)(a:TI):Prop:=∀(pins:List (Addr×Obj))(s:Shared)(σ:St)(H:Hp)(R:It->Hp->Prop),Inv X pins σ H s->a σ H R->wpAny (model X.prog X.w) X.A (eval iter X.env) (λv s1=>wpAny (model X.prog X.w) X.A (pyIter v) (PIE X pins σ tg R) X.xe s1) X.xe s
theorem Rn{M:Model}{A:Around}{E:Value->Shared->Prop}{s:Shared}{tg:Expr}{it:Addr}{u:Value}{o:Obj}{n:String}{vs:Array Value}{Q:Unit->Shared->Prop}(b:s.heap.get? it=some o)(hc:o.cls= .type n)(hd:o.data= .fields vs)(hn:["enumerate","zip","dict_itemiterator","dict_reverseitemiterator","odict_iterator","itertools.zip_longest","itertools.pairwise"].contains n=false)(a:Q () s):wpAny M A (letOwnedTupleGo tg (.ref it) u) Q E s:=by unfold letOwnedTupleGo;cases tg<;>first|exact bB a|(cases u<;>first|exact bB a|(refine aA (wpAny_load b ?_);rw[hc,hd];show wpAny M A (if(["enumerate","zip","dict_itemiterator","dict_reverseitemiterator","odict_iterator","itertools.zip_longest","itertools.pairwise"].contains n&&vs[0]?==some (rawInt _))=true then _ else _) Q E s;rw[if_neg (by intro h;rw[hn,Bool.false_and]at h;cases h)];exact bB a))
noncomputable def Itl(K:PySem.W.Frag)(a:Addr):It:=⟨λi H=>∃xs x,bH K H a xs/\xs[i]?=some x,λi H x H'=>H'=H/\∀xs,bH K H a xs->xs[i]?=some x,λi H=>∃xs,bH K H a xs/\xs.length<=i⟩
noncomputable def Itt(K:PySem.W.Frag)(a:Addr):It:=⟨λi H=>∃xs x,bS K H a xs/\xs[i]?=some x,λi H x H'=>H'=H/\∀xs,bS K H a xs->xs[i]?=some x,λi H=>∃xs,bS K H a xs/\xs.length<=i⟩
noncomputable def Itr(lo:Int)(n:Nat):It:=⟨λi _=>i<n,λi H x H'=>H'=H/\x= .int (lo+i),λi _=>n<=i⟩
theorem LU{P:Program}{w:World}{K:PySem.W.Frag}{tg:Expr}(a it:Addr):Turn P w K tg (Itl K a) [it] it (λi h=>h.IsListIter it a i)where
 mem:=by simp
 obj:=λi h st b hb=>by
  have e:b=it:=by simpa using hb
  subst e;obtain⟨o,e,c,d⟩:=st;exact⟨o,e,λv z=>by rw[d]at z;cases z⟩
 keep:=λi h h' st k=>st.at λo e=>k it (by simp) o e;item:=by intro X n hw m hc i pins s σ H E I hf st q;subst n hw m;obtain⟨xs,x,hq,r⟩:=q;obtain⟨G,t,p,F⟩:=I.list hq;obtain⟨u,C,J⟩:=t.get r;obtain⟨j,f1,f2,f,l,g⟩:=hf it (by simp);refine wpAny_pyNext_list_item st p.isList (x:=u) (by simpa using C) λh' y sb=>?_;have A:Inv X pins σ H {s with heap:=h'}:=I.turned (t':=s.toks) (λb o hb e=>(sb.2 b hb).trans e) j f1 f l g;obtain⟨o,e,c,d⟩:=id y;exact⟨u,rfl,Rn (s:={s with heap:=h'}) e c d (by decide) ⟨x,H,A,J,⟨rfl,λL D=>by rw[I.mw D hq];exact r⟩,y,λb hb=>(hf b hb).1⟩⟩
 done:=by intro X n hw m hc i pins s σ H E I hf st q;subst n hw m;obtain⟨xs,hq,r⟩:=q;obtain⟨G,t,p,F⟩:=I.list hq;obtain⟨j,f1,f2,f,l,g⟩:=hf it (by simp);have hl:=t.length;exact k9 (I.hb hc) (I.SG hc f g) st p.isList (by simp;lia) λh' B=>⟨rfl,I.turned (t':=s.toks) (λb o hb e=>B b o hb e) j f1 f l g⟩
 self:=λ_ _ _ _ _ st h=>wpAny_pyIter_listiter st h
theorem FU{P:Program}{w:World}{K:PySem.W.Frag}{tg:Expr}(a it:Addr):Turn P w K tg (Itt K a) [it] it (λi h=>h.IsTupleIter it a i)where
 mem:=by simp
 obj:=λi h st b hb=>by
  have e:b=it:=by simpa using hb
  subst e;obtain⟨o,e,c,d⟩:=st;exact⟨o,e,λv z=>by rw[d]at z;cases z⟩
 keep:=λi h h' st k=>st.at λo e=>k it (by simp) o e;item:=by intro X n hw m hc i pins s σ H E I hf st q;subst n hw m;obtain⟨xs,x,hq,r⟩:=q;obtain⟨t,y,p,G⟩:=I.tuple hq;obtain⟨u,D,J⟩:=y.get r;obtain⟨j,f1,f2,f,l,g⟩:=hf it (by simp);refine wpAny_pyNext_tuple_item st (show s.heap.IsTuple a t.toArray from p) (x:=u) (by simpa using D) λh' A sb=>?_;have B:Inv X pins σ H {s with heap:=h'}:=I.turned (t':=s.toks) (λb o hb e=>(sb.2 b hb).trans e) j f1 f l g;obtain⟨o,e,c,d⟩:=id A;exact⟨u,rfl,Rn (s:={s with heap:=h'}) e c d (by decide) ⟨x,H,B,J,⟨rfl,λL F=>by rw[I.L0 F hq];exact r⟩,A,λb hb=>(hf b hb).1⟩⟩
 done:=by intro X n hw m hc i pins s σ H E I hf st q;subst n hw m;obtain⟨xs,hq,r⟩:=q;obtain⟨t,y,p,G⟩:=I.tuple hq;obtain⟨j,f1,f2,f,l,g⟩:=hf it (by simp);have hl:=y.length;exact next_tuple_end (I.hb hc) (I.SG hc f g) st (show s.heap.IsTuple a t.toArray from p) (by simp;lia) λh' C=>⟨rfl,I.turned (t':=s.toks) (λb o hb e=>C b o hb e) j f1 f l g⟩
 self:=λ_ _ _ _ _ st h=>wpAny_pyIter_tupleiter st h
theorem Hb{P:Program}{w:World}{K:PySem.W.Frag}{tg:Expr}(it:Addr)(lo:Int)(n:Nat):Turn P w K tg (Itr lo n) [it] it (λi h=>IsRangeIter h it (lo+(i:Nat)*1) ((n:Int)-(i:Nat)) 1)where
 mem:=by simp
 obj:=λi h st b hb=>by
  have e:b=it:=by simpa using hb
  subst e;exact⟨_,st,λv z=>by have x:Data.fields _=Data.cell v:=z;cases x⟩
 keep:=λi h h' st k=>k it (by simp) _ st;item:=by intro X j hw g hc i pins s σ H E I hf st l;subst j hw g;obtain⟨a,f1,f2,c,d,f⟩:=hf it (by simp);refine F0 l st λv h' tk r m u=>?_;obtain⟨t,rfl⟩:=r;have p:Inv X pins σ H {s with heap:=h',toks:=tk}:=I.turned (λb o hb e=>u b o (by simpa using hb) e) a f1 c d f;refine⟨_,rfl,Rn (s:={s with heap:=h',toks:=tk}) (n:="range_iterator") m rfl rfl (by decide) ⟨.int (lo+i),H,p,⟨t,?_⟩,⟨rfl,rfl⟩,m,λb hb=>(hf b hb).1⟩⟩;rw[Int.mul_one]
 done:=by intro X j hw g hc i pins s σ H E I hf st l;subst j hw g;obtain⟨a,f1,f2,c,d,f⟩:=hf it (by simp);exact xX (I.hb hc) st (by have :n<=i:=l;lia) λh' q=>⟨rfl,I.turned (t':=s.toks) (λb o hb e=>q b o hb e) a f1 c d f⟩
 self:=λ_ _ _ _ _ st h=>wpAny_pyIter_rangeiter st h
section
variable{X:Cx}{tg:Expr}
noncomputable def adg(K:PySem.W.Frag)(c:TE):TI:=λσ H R=>c σ H λx b=>∃a,x= .ref a/\(∃xs,bH K b a xs)/\R (Itl K a) b
noncomputable def afk(K:PySem.W.Frag)(c:TE):TI:=λσ H R=>c σ H λx b=>∃a,x= .ref a/\(∃xs,bS K b a xs)/\R (Itt K a) b
theorem kC{l:Expr}{d:TE}(hl:PE X l d):PI X tg l (adg X.K d):=by
 intro pins s σ H R I h;refine bX (hl pins s σ H _ I h) λv s1 i=>?_;obtain⟨x,f,c,g,q1⟩:=i;obtain⟨a,e,⟨xs,hq⟩,q⟩:=q1;subst e;cases g;obtain⟨k,m,p,j⟩:=c.list hq;refine wpAny_pyIter_list p.isList ?_;refine⟨s1.heap.objs.size,[s1.heap.objs.size],_,_,f,rfl,c.kept (t':=s1.toks) λb o e=>b_ _ e,LU a _,⟨_,gT _ rfl,rfl,rfl⟩,λb hb=>?_,q⟩;have e:b=s1.heap.objs.size:=by simpa using hb
 subst e;exact c.QM (bK _) (c.b9.fresh (bK _))
theorem GK{l:Expr}{d:TE}(hl:PE X l d):PI X tg l (afk X.K d):=by
 intro pins s σ H R I h;refine bX (hl pins s σ H _ I h) λv s1 j=>?_;obtain⟨x,f,c,i,q1⟩:=j;obtain⟨a,e,⟨xs,hq⟩,q⟩:=q1;subst e;cases i;obtain⟨g,m,p,k⟩:=c.tuple hq;refine wpAny_pyIter_tuple (show s1.heap.IsTuple a g.toArray from p) ?_;refine⟨s1.heap.objs.size,[s1.heap.objs.size],_,_,f,rfl,c.kept (t':=s1.toks) λb o e=>b_ _ e,FU a _,⟨_,gT _ rfl,rfl,rfl⟩,λb hb=>?_,q⟩;have e:b=s1.heap.objs.size:=by simpa using hb
 subst e;exact c.QM (bK _) (c.b9.fresh (bK _))
theorem P7{pins:List (Addr×Obj)}{σ:St}{H:Hp}{s:Shared}{R:It->Hp->Prop}{E:Value->Shared->Prop}{lo hi:Int}{t u v:Tok}{tk:Nat}(I:Inv X pins σ H s)(h1:-(2^62)<=lo)(h2:lo<2^62)(h3:-(2^62)<=hi)(h4:hi<2^62)(q:R (Itr lo (hi-lo).toNat) H):wpAny (model X.prog X.w) X.A (pyIter (.ref s.heap.objs.size)) (PIE X pins σ tg R) E {s with heap:=s.heap.push {cls:= .type "range",data:= .fields #[.int lo t, .int hi u, .int 1 v]},toks:=tk}:=by
 refine wpAny_pyIter_range (IsRange.new ..) (small_one h1 h2 h3 h4) ?_;have a:Inv X pins σ H {s with heap:=s.heap.push {cls:= .type "range",data:= .fields #[.int lo t, .int hi u, .int 1 v]},toks:=tk}:=I.kept λb o e=>b_ _ e;refine⟨(s.heap.push {cls:= .type "range",data:= .fields #[.int lo t, .int hi u, .int 1 v]}).objs.size,[(s.heap.push {cls:= .type "range",data:= .fields #[.int lo t, .int hi u, .int 1 v]}).objs.size],_,_,H,rfl,a.kept (t':=tk) λb o e=>b_ _ e,Hb _ lo (hi-lo).toNat,?_,λb hb=>?_,q⟩
 ·have e1:lo+((0:Nat):Int)*1=lo:=by simp
  have e2:(((hi-lo).toNat:Nat):Int)-((0:Nat):Int)=Builtin.Range.rangeSize lo hi 1:=by rw[rangeSize_one];split<;>lia
  show IsRangeIter _ _ (lo+((0:Nat):Int)*1) ((((hi-lo).toNat:Nat):Int)-((0:Nat):Int)) 1;rw[e1,e2];exact gT _ rfl
 ·have e:b=(s.heap.push {cls:= .type "range",data:= .fields #[.int lo t, .int hi u, .int 1 v]}).objs.size:=by simpa using hb
  subst e;exact a.QM (bK _) (a.b9.fresh (bK _))
noncomputable def ac1(b:TA):TI:=λσ H R=>b σ H λvs a=>∃j:Int,vs=[.int j]/\-(2^62)<=j/\j<2^62/\R (Itr 0 j.toNat) a
theorem dR{a:Expr}{c:TA}{p b:Pos}(f:Gl X "range")(hm:X.mg "range"=none)(ha:PA X [a] c)(g:starEach [a] X.env=[(false,eval a X.env)]:=by rfl):PI X tg (.Call (.Name "range" p) [a] [] b) (ac1 c):=by intro pins s σ H R I h;refine Call_ (lT I f hm boot_range (PyProof.Rows.callWith_type1 (bX (ha b pins s σ H _ I h) λus s1 k=>?_) g rfl));obtain⟨vs,l,d,i,q1⟩:=k;obtain⟨j,e,q1,q2,q⟩:=q1;subst e;cases i with|cons r rr=>cases rr;obtain⟨t,rfl⟩:=r;exact call_range_1 (P7 d (by lia) (by lia) q1 q2 (by simpa using q))
noncomputable def afy(e:TI)(g:TG)(tb:TS):TS:=λD σ H=>e σ H λJ c=>∃W:Nat->Nat->St->Hp->Prop,(∃m,W 0 m σ c)/\∀i m σ H,W i m σ H->(J.stop i H/\D.nx σ H)\/(J.go i H/\∃N:St->Hp->Prop,(∀b H',N b H'->∃a,a<m/\W (i+1) a b H')/\∀x H',J.zH i H x H'->g x σ H' λf d=>tb {D with nx:=N,ct:=N,bk:=D.nx} f d)
noncomputable def ph(fp:List Addr)(h:Heap):List (Addr×Obj):=fp.filterMap λb=>(h.get? b).map λo=>(b,o)
theorem fw{fp:List Addr}{h:Heap}{b:Addr}{o:Obj}(hb:b∈fp)(e:h.get? b=some o):(b,o)∈ph fp h:=List.mem_filterMap.mpr ⟨b,hb,by rw[e];rfl⟩
theorem LO{fp:List Addr}{h:Heap}{p:Addr×Obj}(hp:p∈ph fp h):p.1∈fp/\h.get? p.1=some p.2:=by obtain⟨b,hb,e⟩:=List.mem_filterMap.mp hp;cases q:h.get? b with|none=>rw[q]at e;cases e|some o=>rw[q]at e;have e':(b,o)=p:=Option.some.inj e;subst e';exact⟨hb,q⟩
theorem Inv.pinned{pins:List (Addr×Obj)}{σ:St}{H:Hp}{s:Shared}{fp:List Addr}(I:Inv X pins σ H s)(hf:∀b∈fp,m8 X pins H b)(c:∀b∈fp,∃o,s.heap.get? b=some o/\∀v,o.data≠ .cell v):Inv X (pins++ph fp s.heap) σ H s:=I.vn λp hp=>(List.mem_append.mp hp).elim (λz=>I.pin p (j3 _ z)) λz=>by obtain⟨hb,e⟩:=LO z;obtain⟨a,f1,f2,_⟩:=hf p.1 hb;obtain⟨o,e',d⟩:=c p.1 hb;rw[e]at e';cases e';exact⟨e,a,f1,f2,d⟩
theorem Inv.ka{pins pl:List (Addr×Obj)}{σ:St}{H:Hp}{s:Shared}(I:Inv X (pins++pl) σ H s):Inv X pins σ H s:=I.vn λp hp=>I.pin p (j3 _ (qP _ hp))
theorem fz{iter:Expr}{body:List Stmt}{M:TI}{g:TG}{tb:TS}{pos:Pos}(hp:PassesOwn (model X.prog X.w) X.A X.env X.xe)(hc:X.calm=true)(hi:PI X tg iter M)(hg:PG X tg g)(hb:iz X body tb)(hs:∀x,foldedSetIterable iter X.env x=pure x:=by intro _;rfl):PS X (.For tg iter body [] pos) (afy M g tb):=by
 intro pins s σ H D I h;refine wpAny_For (bX (hi pins s σ H _ I h) λv s1 h1=>bX h1 λitv s2 h2=>?_) hs;obtain⟨it,fp,tn,J,O,e,Q,T,ZL,f2,W,⟨m0,w0⟩,turn⟩:=h2;subst e;have B:∀{H':Hp},(∀b∈fp,H' b=none)->∀b∈fp,m8 X pins H' b:=λhn b hb=>⟨hn b hb,(f2 b hb).2⟩;refine codeAny_forLoop_any (λn s'=>∃i q H',Inv X pins q H' s'/\tn i s'.heap/\(∀b∈fp,H' b=none)/\W i n q H') ?_ m0 ⟨0,σ,O,Q,ZL,λb hb=>(f2 b hb).1,w0⟩;rintro n G⟨i,t,w,E,L,F,w3⟩;rcases turn i n t w w3 with⟨stop,qn⟩|⟨go,N,Z,step⟩;·refine wpAny_passesOwn hp (bX (T.done X rfl rfl rfl hc i pins G t w X.xe E (B F) L stop) λr s4 l=>?_);obtain⟨y,R⟩:=l;subst y;exact wpAny_execs_nil ⟨t,w,R,qn⟩
 ·refine wpAny_passesOwn hp (bX (T.item X rfl rfl rfl hc i pins G t w X.xe E (B F) L go) λr s4 l=>?_);obtain⟨u,y,h4⟩:=l;subst y;refine wpAny_passesOwn hp (bX h4 λ_ K l=>?_);obtain⟨x,C,S,r5,y5,A,Y⟩:=l;have U:=S.pinned (B Y) (T.obj _ _ A);refine wpAny_passesOwn hp (bX (hg _ K t C x u _ U r5 (step x C y5)) λ_ s6 l=>?_);obtain⟨σ6,P,V,q6⟩:=l;refine wpAny_passesOwn hp (bX (hb _ s6 σ6 P _ V q6) λf z k=>?_);have again:∀{j:St}{a:Hp},Inv X (pins++ph fp K.heap) j a z->N j a->∃m,m<n/\∃i q H',Inv X pins q H' z/\tn i z.heap/\(∀b∈fp,H' b=none)/\W i m q H':=λ{j a}c p=>by obtain⟨m',hm,w7⟩:=Z j a p;refine⟨m',hm,i+1,j,a,c.ka,T.keep _ _ _ A λb hb o e=>(c.pin (b,o) (j3 _ (j3 _ (fw hb e)))).1,λb hb=>?_,w7⟩;obtain⟨o,e,d⟩:=T.obj _ _ A b hb;exact(c.pin (b,o) (j3 _ (j3 _ (fw hb e)))).2.1
  cases f with|next=>obtain⟨j,a,c,p⟩:=k;exact again c p|cont=>obtain⟨j,a,c,p⟩:=k;exact again c p|brk=>obtain⟨j,a,c,k⟩:=k;exact⟨j,a,c.ka,k⟩|ret v=>obtain⟨x7,j,a,c,r7,k⟩:=k;exact⟨x7,j,a,c.ka,r7,k⟩
end
theorem Qi{K:PySem.W.Frag}{a:Addr}{xs:List V}{g:TG}{tb:TS}{D:Ends}{σ:St}{H:Hp}(Pv:Nat->St->Hp->Prop)(j:Pv 0 σ H)(hl:∀i σ H,i<=xs.length->Pv i σ H->bH K H a xs)(k:∀i x σ H,xs[i]?=some x->Pv i σ H->g x σ H λd b=>tb {D with nx:=Pv (i+1),ct:=Pv (i+1),bk:=D.nx} d b)(hd:∀σ H,Pv xs.length σ H->D.nx σ H):∃W:Nat->Nat->St->Hp->Prop,(∃m,W 0 m σ H)/\∀i m σ H,W i m σ H->((Itl K a).stop i H/\D.nx σ H)\/((Itl K a).go i H/\∃N:St->Hp->Prop,(∀c H',N c H'->∃h,h<m/\W (i+1) h c H')/\∀x H',(Itl K a).zH i H x H'->g x σ H' λd b=>tb {D with nx:=N,ct:=N,bk:=D.nx} d b):=by
 refine⟨λi m σ H=>m=xs.length-i/\i<=xs.length/\Pv i σ H,⟨xs.length,by simp,eB _,j⟩,?_⟩;rintro i m σ H⟨rfl,hi,p⟩;have q:=hl i σ H hi p;by_cases f:i<xs.length;·refine .inr ⟨⟨xs,xs[i],q,by simp[f]⟩,Pv (i+1),λc H' l=>⟨xs.length-(i+1),by lia,rfl,f,l⟩,λx H' y=>?_⟩;obtain⟨e,y⟩:=y;subst e;exact k i x σ _ (y xs q) p
 ·have e:i=xs.length:=by lia
  subst e;exact .inl ⟨⟨xs,q,bK _⟩,hd σ H p⟩
theorem Mh{lo:Int}{n:Nat}{g:TG}{tb:TS}{D:Ends}{σ:St}{H:Hp}(Pv:Nat->St->Hp->Prop)(h:Pv 0 σ H)(j:∀i σ H,i<n->Pv i σ H->g (.int (lo+i)) σ H λd a=>tb {D with nx:=Pv (i+1),ct:=Pv (i+1),bk:=D.nx} d a)(hd:∀σ H,Pv n σ H->D.nx σ H):∃W:Nat->Nat->St->Hp->Prop,(∃m,W 0 m σ H)/\∀i m σ H,W i m σ H->((Itr lo n).stop i H/\D.nx σ H)\/((Itr lo n).go i H/\∃N:St->Hp->Prop,(∀c H',N c H'->∃f,f<m/\W (i+1) f c H')/\∀x H',(Itr lo n).zH i H x H'->g x σ H' λd a=>tb {D with nx:=N,ct:=N,bk:=D.nx} d a):=by
 refine⟨λi m σ H=>m=n-i/\i<=n/\Pv i σ H,⟨n,by simp,eB _,h⟩,?_⟩;rintro i m σ H⟨rfl,hi,p⟩;by_cases b:i<n;·refine .inr ⟨b,Pv (i+1),λc H' k=>⟨n-(i+1),by lia,rfl,b,k⟩,λx H' y=>?_⟩;obtain⟨e,y⟩:=y;subst e y;exact j i σ _ b p
 ·have e:i=n:=by lia
  subst e;exact .inl ⟨bK _,hd σ H p⟩
noncomputable abbrev R2:=V->V->Hp->VK->Prop
noncomputable def lj(X:Cx)(f:Value->Value->Sem Value)(r:R2):Prop:=∀(pins:List (Addr×Obj))(s:Shared)(σ:St)(H:Hp)(x y:V)(v u:Value)(Q:VK),Inv X pins σ H s->RelV x v->RelV y u->r x y H Q->wpAny (model X.prog X.w) X.A (f v u) (EP X pins σ Q) X.xe s
noncomputable def UnR(X:Cx)(f:Value->Sem Value)(r:V->Hp->VK->Prop):Prop:=∀(pins:List (Addr×Obj))(s:Shared)(σ:St)(H:Hp)(x:V)(v:Value)(Q:VK),Inv X pins σ H s->RelV x v->r x H Q->wpAny (model X.prog X.w) X.A (f v) (EP X pins σ Q) X.xe s
noncomputable def iP(X:Cx)(f:Value)(r:List V->Hp->VK->Prop):Prop:=∀(pins:List (Addr×Obj))(s:Shared)(σ:St)(H:Hp)(xs:List V)(us:List Value)(Q:VK),Inv X pins σ H s->Vals xs us->r xs H Q->wpAny (model X.prog X.w) X.A (call f us) (EP X pins σ Q) X.xe s
noncomputable def Yq(r:R2)(c tb:TE):TE:=λσ H Q=>c σ H λx a=>tb σ a λy b=>r x y b Q
noncomputable def tUn(r:V->Hp->VK->Prop)(b:TE):TE:=λσ H Q=>b σ H λx a=>r x a Q
noncomputable def rI(C:Int->Int->Prop)(g:Int->Int->V):R2:=λx y H Q=>∃i j,x= .int i/\y= .int j/\C i j/\Q (g i j) H
noncomputable def WK(g:Int->Int->V):R2:=λx y H Q=>∃i j,x= .int i/\y= .int j/\Q (g i j) H
noncomputable def rU(g:Int->V):V->Hp->VK->Prop:=λx H Q=>∃i,x= .int i/\Q (g i) H
section
variable{X:Cx}{a b c:Expr}{ta tb tc:TE}{pos:Pos}
theorem XI(ha:PE X a ta)(hb:PE X b tb){pins:List (Addr×Obj)}{s:Shared}{σ:St}{H:Hp}{R:V->V->Hp->Prop}(I:Inv X pins σ H s)(h:ta σ H λx e=>tb σ e λy d=>R x y d){Q:Value->Shared->Prop}{f:Value->Value->Sem Value}(hf:∀v u s2 x y d,Inv X pins σ d s2->RelV x v->RelV y u->R x y d->wpAny (model X.prog X.w) X.A (f v u) Q X.xe s2):wpAny (model X.prog X.w) X.A (eval a X.env) (λv m=>wpAny (model X.prog X.w) X.A (eval b X.env) (λu n=>wpAny (model X.prog X.w) X.A (f v u) Q X.xe n) X.xe m) X.xe s:=by refine bX (ha pins s σ H _ I h) λv s1 g=>?_;obtain⟨x,e,i,k,q1⟩:=g;refine bX (hb pins s1 σ e _ i q1) λu s2 g=>?_;obtain⟨y,d,j,l,q2⟩:=g;exact hf v u s2 x y d j k l q2
theorem aS{op:Operator}{r:R2}(f:lj X (binaryOp op) r)(ha:PE X a ta)(hb:PE X b tb):PE X (.BinOp a op b pos) (Yq r ta tb):=by intro pins s σ H Q I h;exact wpAny_BinOp (XI ha hb I h λv u s2 x y d e g i q=>f pins s2 σ d x y v u Q e g i q)
theorem NS{op:UnaryOp}{r:V->Hp->VK->Prop}(f:UnR X (unaryOp op) r)(ha:PE X a ta):PE X (.UnaryOp op a pos) (tUn r ta):=by intro pins s σ H Q I h;exact UnaryOp_ (bX (ha pins s σ H _ I h) λv s1⟨x,d,e,g,q1⟩=>f pins s1 σ d x v Q e g q1)
theorem opI{f:Value->Value->Sem Value}{C:Int->Int->Prop}{g:Int->Int->Int}(rule:∀(i j:Int)(t u:Tok)(s:Shared)(Q:Value->Shared->Prop)(E:Value->Shared->Prop),C i j->Q (.int (g i j) s.toks) {s with toks:=s.toks+1}->wpAny (model X.prog X.w) X.A (f (.int i t) (.int j u)) Q E s):lj X f (rI C λi j=> .int (g i j)):=by intro pins s σ H x y v u Q I d e h;obtain⟨i,j,rfl,rfl,hc,q⟩:=h;obtain⟨t,rfl⟩:=d;obtain⟨t',rfl⟩:=e;exact rule i j t t' s _ _ hc ⟨.int (g i j),H,I.tok _,⟨_,rfl⟩,q⟩
theorem adp{f:Value->Value->Sem Value}{g:Int->Int->Int}(rule:∀(i j:Int)(t u:Tok)(s:Shared)(Q:Value->Shared->Prop)(E:Value->Shared->Prop),Q (.int (g i j) s.toks) {s with toks:=s.toks+1}->wpAny (model X.prog X.w) X.A (f (.int i t) (.int j u)) Q E s):lj X f (WK λi j=> .int (g i j)):=by intro pins s σ H x y v u Q I d e h;obtain⟨i,j,rfl,rfl,q⟩:=h;obtain⟨t,rfl⟩:=d;obtain⟨t',rfl⟩:=e;exact rule i j t t' s _ _ ⟨.int (g i j),H,I.tok _,⟨_,rfl⟩,q⟩
theorem TV{f:Value->Value->Sem Value}{g:Int->Int->Bool}(rule:∀(i j:Int)(t u:Tok)(s:Shared)(Q:Value->Shared->Prop)(E:Value->Shared->Prop),Q (.bool (g i j)) s->wpAny (model X.prog X.w) X.A (f (.int i t) (.int j u)) Q E s):lj X f (WK λi j=> .bl (g i j)):=by intro pins s σ H x y v u Q I d e h;obtain⟨i,j,rfl,rfl,q⟩:=h;obtain⟨t,rfl⟩:=d;obtain⟨t',rfl⟩:=e;exact rule i j t t' s _ _ ⟨.bl (g i j),H,I,rfl,q⟩
def aa1(i j:Int):Prop:=0<j/\j<1073741824
def afa(i j:Int):Prop:=0<=j/\j<=1000000/\i.natAbs<2^64
def Zm(i j:Int):Prop:=(-(2^64)<i/\i<2^64)\/(-(2^64)<j/\j<2^64)
theorem Zm.ok{i j:Int}(h:Zm i j):IntMulOk i j:=by
 rcases h with⟨h1,h2⟩|⟨h1,h2⟩;·exact .of_left (intBits_le_64 h1 h2)
 ·exact .of_right (intBits_le_64 h1 h2)
theorem cE:lj X (binaryOp .Add) (WK λi j=> .int (i+j)):=adp λ_ _ _ _ _ _ _ q=>add_int q
theorem bG:lj X (binaryOp .Sub) (WK λi j=> .int (i-j)):=adp λ_ _ _ _ _ _ _ q=>sub_int q
theorem yz:lj X (binaryOp .Mult) (rI Zm λi j=> .int (i*j)):=opI λ_ _ _ _ _ _ _ hc q=>mul_int q hc.ok
theorem sA:lj X (binaryOp .FloorDiv) (rI aa1 λi j=> .int (i/j)):=opI λi j _ _ _ _ _ hc q=>by have h1:(0:Int)<j:=hc.1;have h2:j<1073741824:=hc.2;exact floordiv_int (by lia) (by rw[Int.fdiv_eq_ediv_of_nonneg i (by lia)];exact q) (.inl (PyProof.noPylong_small (by lia)))
theorem gW:lj X (binaryOp .Mod) (rI (λ_ j=>0<j) λi j=> .int (i%j)):=opI λi j _ _ _ _ _ hc q=>by have h1:(0:Int)<j:=hc;exact mod_int' (by lia) (by rw[Int.fmod_eq_emod_of_nonneg i (by lia)];exact q)
theorem aak:lj X (binaryOp .Pow) (rI afa λi j=> .int (i^j.toNat)):=opI λ_ _ _ _ _ _ _ hc q=>pow_int_small hc.1 hc.2.1 hc.2.2 q
theorem unI{f:Value->Sem Value}{g:Int->Int}(rule:∀(i:Int)(t:Tok)(s:Shared)(Q:Value->Shared->Prop)(E:Value->Shared->Prop),Q (.int (g i) s.toks) {s with toks:=s.toks+1}->wpAny (model X.prog X.w) X.A (f (.int i t)) Q E s):UnR X f (rU λi=> .int (g i)):=by intro pins s σ H x v Q I d h;obtain⟨i,rfl,q⟩:=h;obtain⟨t,rfl⟩:=d;exact rule i t s _ _ ⟨.int (g i),H,I.tok _,⟨_,rfl⟩,q⟩
theorem HE:UnR X (unaryOp .USub) (rU λi=> .int (-i)):=unI λ_ _ _ _ _ q=>neg_int q
end
noncomputable def aaH:V->V->Bool| .aW, .aW=>true| .aW, .int _=>true| .int _, .aW=>true| .aW, .bl _=>true| .bl _, .aW=>true| .aW, .str _=>true| .str _, .aW=>true| .int _, .int _=>true| .bl _, .bl _=>true| .str _, .str _=>true| .NA _, .NA _=>true| .int _, .str _=>true| .str _, .int _=>true| .bl _, .str _=>true| .str _, .bl _=>true|_,_=>false
noncomputable def rEq:R2:=λx y H Q=>aaH x y=true/\Q (.bl (decide (x=y))) H
noncomputable def rNe:R2:=λx y H Q=>aaH x y=true/\Q (.bl (!decide (x=y))) H
theorem IE{i j:Int}:decide (V.int i=V.int j)=(i==j):=by rw[Bool.eq_iff_iff];simp
theorem N_{i j:Bool}:decide (V.bl i=V.bl j)=(i==j):=by rw[Bool.eq_iff_iff];simp
theorem Iq{i j:Str}:decide (V.str i=V.str j)=(i==j):=by rw[Bool.eq_iff_iff];simp
theorem IK{i j:Array UInt8}:decide (V.NA i=V.NA j)=(i.toList==j.toList):=by rw[Bool.eq_iff_iff];cases i;cases j;simp
section
variable{X:Cx}{a b c:Expr}{ta tb tc:TE}{pos:Pos}
theorem bN{pins:List (Addr×Obj)}{σ:St}{H:Hp}{s:Shared}{Q:VK}{k d:Bool}(I:Inv X pins σ H s)(q:Q (.bl k) H)(e:k=d):EP X pins σ Q (.bool d) s:=by subst e;exact⟨.bl k,H,I,rfl,q⟩
theorem bR:lj X (compareOp .Eq) rEq:=by
 intro pins s σ H x y v u Q I f d h;obtain⟨e,q⟩:=h;cases x with
  |aW=>cases f;cases y with|aW=>cases d;exact PySem.EqNone.eq_none_none (bN I q (by simp))|bl j=>cases d;exact PySem.EqNone.eq_none_bool (bN I q (by simp))|int j=>obtain⟨t',rfl⟩:=d;exact PySem.EqNone.eq_none_int (bN I q (by simp))|str j=>obtain⟨t',rfl⟩:=d;exact PySem.EqNone.eq_none_str (bN I q (by simp))|_=>exact absurd (show false=true from e) fQ
  |bl i=>cases f;cases y with|aW=>cases d;exact PySem.EqNone.eq_bool_none (bN I q (by simp))|bl j=>cases d;exact eq_bool (bN I q N_)|str j=>obtain⟨t',rfl⟩:=d;exact PySem.EqMixed.eq_bool_str (bN I q (by simp))|_=>exact absurd (show false=true from e) fQ
  |int i=>obtain⟨t,rfl⟩:=f;cases y with|aW=>cases d;exact PySem.EqNone.eq_int_none (bN I q (by simp))|int j=>obtain⟨t',rfl⟩:=d;exact eq_int (bN I q IE)|str j=>obtain⟨t',rfl⟩:=d;exact PySem.EqMixed.eq_int_str (bN I q (by simp))|_=>exact absurd (show false=true from e) fQ
  |str i=>obtain⟨t,rfl⟩:=f;cases y with|aW=>cases d;exact PySem.EqNone.eq_str_none (bN I q (by simp))|bl j=>cases d;exact PySem.EqMixed.eq_str_bool (bN I q (by simp))|int j=>obtain⟨t',rfl⟩:=d;exact PySem.EqMixed.eq_str_int (bN I q (by simp))|str j=>obtain⟨t',rfl⟩:=d;exact eq_str (bN I q Iq)|_=>exact absurd (show false=true from e) fQ
  |NA i=>obtain⟨t,rfl⟩:=f;cases y with|NA j=>obtain⟨t',rfl⟩:=d;exact PySem.W.eq_bytes (bN I q IK)|_=>exact absurd (show false=true from e) fQ
  |_=>cases y<;>exact absurd (show false=true from e) fQ
theorem HU:lj X (compareOp .NotEq) rNe:=by
 intro pins s σ H x y v u Q I f d h;obtain⟨e,q⟩:=h;cases x with
  |aW=>cases f;cases y with|aW=>cases d;exact PySem.EqNone.ne_none_none (bN I q (by simp))|bl j=>cases d;exact PySem.EqNone.ne_none_bool (bN I q (by simp))|int j=>obtain⟨t',rfl⟩:=d;exact PySem.EqNone.ne_none_int (bN I q (by simp))|str j=>obtain⟨t',rfl⟩:=d;exact PySem.EqNone.ne_none_str (bN I q (by simp))|_=>exact absurd (show false=true from e) fQ
  |bl i=>cases f;cases y with|aW=>cases d;exact PySem.EqNone.ne_bool_none (bN I q (by simp))|bl j=>cases d;exact ne_bool (bN I q (congrArg not N_))|str j=>obtain⟨t',rfl⟩:=d;exact PySem.EqMixed.ne_bool_str (bN I q (by simp))|_=>exact absurd (show false=true from e) fQ
  |int i=>obtain⟨t,rfl⟩:=f;cases y with|aW=>cases d;exact PySem.EqNone.ne_int_none (bN I q (by simp))|int j=>obtain⟨t',rfl⟩:=d;exact ne_int (bN I q (congrArg not IE))|str j=>obtain⟨t',rfl⟩:=d;exact PySem.EqMixed.ne_int_str (bN I q (by simp))|_=>exact absurd (show false=true from e) fQ
  |str i=>obtain⟨t,rfl⟩:=f;cases y with|aW=>cases d;exact PySem.EqNone.ne_str_none (bN I q (by simp))|bl j=>cases d;exact PySem.EqMixed.ne_str_bool (bN I q (by simp))|int j=>obtain⟨t',rfl⟩:=d;exact PySem.EqMixed.ne_str_int (bN I q (by simp))|str j=>obtain⟨t',rfl⟩:=d;exact ne_str (bN I q (congrArg not Iq))|_=>exact absurd (show false=true from e) fQ
  |NA i=>obtain⟨t,rfl⟩:=f;cases y with|NA j=>obtain⟨t',rfl⟩:=d;exact PySem.W.ne_bytes (bN I q (congrArg not IK))|_=>exact absurd (show false=true from e) fQ
  |_=>cases y<;>exact absurd (show false=true from e) fQ
theorem jK:lj X (compareOp .Lt) (WK λi j=> .bl (decide (i<j))):=TV λ_ _ _ _ _ _ _ q=>lt_int q
theorem Xd:lj X (compareOp .LtE) (WK λi j=> .bl (decide (i<=j))):=TV λ_ _ _ _ _ _ _ q=>le_int q
theorem ng:lj X (compareOp .Gt) (WK λi j=> .bl (decide (j<i))):=TV λ_ _ _ _ _ _ _ q=>gt_int q
theorem QH:lj X (compareOp .GtE) (WK λi j=> .bl (decide (j<=i))):=TV λ_ _ _ _ _ _ _ q=>ge_int q
theorem Xs:lj X (compareOp .Is) (λx y H Q=>y= .aW/\Q (.bl (decide (x= .aW))) H):=by intro pins s σ H x y v u Q I d e h;obtain⟨rfl,q⟩:=h;cases e;refine is_none_gen (bN I q ?_);cases x<;>first|(cases d;rfl)|(obtain⟨t,rfl⟩:=d;rfl)
theorem rD:lj X (compareOp .IsNot) (λx y H Q=>y= .aW/\Q (.bl (!decide (x= .aW))) H):=by intro pins s σ H x y v u Q I d e h;obtain⟨rfl,q⟩:=h;cases e;refine isnot_none_gen (bN I q ?_);cases x<;>first|(cases d;rfl)|(obtain⟨t,rfl⟩:=d;rfl)
theorem aQ(b:Expr){op:CmpOp}(h:op≠ .In:=by decide)(h2:op≠ .NotIn:=by decide):behindInMarks op b=false:=by
 have e1:(op==CmpOp.In)=false:=by cases op<;>first|rfl|exact absurd rfl h
 have e2:(op==CmpOp.NotIn)=false:=by cases op<;>first|rfl|exact absurd rfl h2
 cases b<;>simp[behindInMarks,e1,e2]
theorem gd{op:CmpOp}{r:R2}(f:lj X (compareOp op) r)(ha:PE X a ta)(hb:PE X b tb)(hm:behindInMarks op b=false):PE X (.Compare a [op] [b] pos) (Yq r ta tb):=by intro pins s σ H Q I h;exact wpAny_Compare1 (XI ha hb I h λv u s2 x y d e g i q=>f pins s2 σ d x y v u Q e g i q) hm
noncomputable def W0(t:TE):TT:=λσ H Q=>t σ H λx H'=>∃k,x= .bl k/\Q k H'
theorem aI{op:CmpOp}{r:R2}(m:lj X (compareOp op) r)(ha:PE X a ta)(hb:PE X b tb)(hm:behindInMarks op b=false):PT X (.Compare a [op] [b] pos) (W0 (Yq r ta tb)):=by intro pins s σ H Q I h;refine wpAny_isTrue_Compare1 (bX (ha pins s σ H _ I h) λv s1⟨x,d,i,n,q1⟩=>bX (hb pins s1 σ d _ i q1) λu s2⟨y,f,j,o,q2⟩=>bX (m pins s2 σ f x y v u _ j n o q2) λc q⟨z,g,l,p,k,e,q3⟩=>?_) hm;subst e;cases p;exact wpAny_truthy_bool ⟨g,l,q3⟩
noncomputable def Zj(r h:R2)(ta tb tc:TE):TE:=λσ H Q=>ta σ H λx e=>tb σ e λy f=>r x y f λz d=>∃k,z= .bl k/\(if k=true then tc σ d λi g=>h y i g Q else Q (.bl false) d)
theorem Qg{op f:CmpOp}{r j:R2}(B:lj X (compareOp op) r)(C:lj X (compareOp f) j)(ha:PE X a ta)(hb:PE X b tb)(hc:PE X c tc)(hm:lastMarks [op,f] [b,c]=false:=by with_unfolding_all rfl):PT X (.Compare a [op,f] [b,c] pos) (W0 (Zj r j ta tb tc)):=by intro pins s σ H Q I h;refine isTrue_chain (bX (ha pins s σ H _ I h) λv s1⟨x,m,q,F,q1⟩=>test_link (bX (hb pins s1 σ m _ q q1) λu s2⟨y,n,t,l,q2⟩=>bX (B pins s2 σ n x y v u _ t F l q2) λd L⟨z,g,i,G,k,e,q3⟩=>?_)) hm;subst e;cases G;refine wpAny_truthy_bool ?_;cases k with|false=>obtain⟨R,e',D⟩:=q3;cases e';exact ite_ff ⟨g,i,D⟩|true=>refine ite_tt (test_last (bX (hc pins L σ g _ i q3) λN M⟨O,o,w,J,q4⟩=>bX (C pins M σ o y O u N _ w l J q4) λd' S P=>?_));obtain⟨T,p,A,K,k2,e2,E⟩:=P;subst e2;cases K;exact wpAny_truthy_bool ⟨p,A,E⟩
theorem xk:(sizeLine:Nat)<2^63:=by rw[sizeLine_eq];decide
theorem cG:lj X (binaryOp .Add) (λx y H Q=>∃i j,x= .str i/\y= .str j/\i.length+j.length<=sizeLine/\Q (.str (i++j)) H):=by intro pins s σ H x y v u Q I e f h;obtain⟨i,j,rfl,rfl,d,q⟩:=h;obtain⟨t,rfl⟩:=e;obtain⟨t',rfl⟩:=f;exact add_str (λt' tk=>⟨.str (i++j),H,I.tok _,⟨_,rfl⟩,q⟩) d
theorem vals1{x:V}{us:List Value}(r:Vals [x] us):∃u,us=[u]/\RelV x u:=by cases r with|cons d e=>cases e;exact⟨_,rfl,d⟩
theorem Ae:iP X (.type "int") (λxs H Q=>(∃i,xs=[.int i]/\Q (.int i) H)\/∃k,xs=[.bl k]/\Q (.int (if k then 1 else 0)) H):=by
 intro pins s σ H xs us Q I r h;rcases h with⟨i,rfl,q⟩|⟨k,rfl,q⟩;·obtain⟨u,rfl,t,rfl⟩:=vals1 r;exact call_int_int ⟨.int i,H,I,⟨_,rfl⟩,q⟩
 ·obtain⟨u,rfl,d⟩:=vals1 r;cases d;exact call_int_bool ⟨.int (if k then 1 else 0),H,I.tok _,⟨_,rfl⟩,q⟩
end
structure YH(h:Heap)(x dx C:Addr)(mA:Str->Option Value):Prop where
 obj:h.get? x=some (PySem.W.instObj C dx)
 ns:h.Ns1 dx mA
 ne:dx≠x
theorem M_{h:Heap}{dx:Addr}{mA:Str->Option Value}(n:h.Ns1 dx mA):∃od,h.get? dx=some od/\∀name,PySem.W.lookIn name od=some (mA name):=by
 obtain⟨o,es,ep,f,hd,c,_,hm⟩:=n;refine⟨o,f,λname=>?_⟩;have e:=hm name;unfold nsFind findBy at e;rw[<-Array.find?_toList]at e;unfold PySem.W.lookIn;rw[hd];dsimp only;split;·rename_i y q;rw[q]at e;exact congrArg some e
 ·rename_i q;rw[q]at e;have a:es.toList.any (·.refKey)=false:=by rw[List.any_eq_false];intro y g;obtain⟨z,t,d⟩:=c y (Array.mem_toList_iff.mp g);simp[DictEntry.refKey,d]
  have b:¬es.toList.any (·.refKey)=true:=by rw[a];exact fQ
  rw[if_neg b];exact congrArg some e
theorem YH.look{h:Heap}{x dx C:Addr}{mA:Str->Option Value}(I:YH h x dx C mA):∃od,PySem.W.InstAt h x (PySem.W.instObj C dx) C (some od)/\∀name,PySem.W.lookIn name od=some (mA name):=let⟨od,a,hl⟩:=M_ I.ns;⟨od,⟨I.obj,rfl,rfl,a⟩,hl⟩
section
variable{prog:Program}{w:World}{A:Around}{E:Value->Shared->Prop}{s:Shared}{K:PySem.W.Frag}{x dx C f:Addr}{mA:Str->Option Value}{name:Str}{v:Value}
end
theorem zj.some_of{v:V}{o:Option Value}(r:zj (some v) o):∃u,o=some u/\RelV v u:=by cases o with|none=>exact(show False from r).elim|some u=>exact⟨u,rfl,r⟩
section
variable{P:Program}{w:World}{H H':Hp}{h h':Heap}{a C dx:Addr}{fs fs':List (Str×V)}
theorem SX(b9:jN P w H h)(e:H a=some (.ins C dx fs)):∃mA,YH h a dx C mA/\(∀f,zj (fs.lookup f) (mA f))/\PySem.Within mA (fs.map (·.1))/\fs.length<=1000/\H dx=some (.own a):=by obtain⟨d,z,ne,ob,mA,n,r,q⟩:=(show cI P w H h a (.ins C dx fs)from b9 a _ e);exact⟨mA,⟨ob,n,ne⟩,r,q,z,d⟩
end
structure Cls(K:PySem.W.Frag)(C:Addr):Prop where
 pg:PySem.W.plainGet K C Str.empty=true
 hd:PySem.W.hasDictIn K C=true
 po:PySem.W.plainOver K C=true
 sa:PySem.W.findIn K (.ref C) "__setattr__"=some (some (.builtin "object.__setattr__"))
theorem Cls.get{K:PySem.W.Frag}{C:Addr}(c:Cls K C)(f:Str):PySem.W.plainGet K C f=true:=c.pg
structure Con(K:PySem.W.Frag)(C:Addr)(f:Str)(v:V)(u:Value):Prop where
 at_:PySem.W.findIn K (.ref C) f=some (some u)
 rel:RelV v u
 get:PySem.W.specialIn K u "__get__"=some none
 cp:PySem.W.copiedNames.contains f=false
structure Meth(K:PySem.W.Frag)(C:Addr)(m:Str)(f:Addr):Prop where
 at_:PySem.W.findIn K (.ref C) m=some (some (.ref f))
 fn:PySem.W.isFn K (.ref f)=true
 kp:PySem.W.keepIn K (.ref f)=true
section
variable{X:Cx}{pins:List (Addr×Obj)}{σ:St}{H:Hp}{s:Shared}{a C dx:Addr}{fs:List (Str×V)}{f:Str}{v:V}{A:Around}{E:Value->Shared->Prop}
end
section
variable{X:Cx}{o e value:Expr}{f:Str}{pos pos' QA:Pos}{ta tv:TE}
end
section
variable{X:Cx}{pins:List (Addr×Obj)}{σ:St}{H:Hp}{s:Shared}{A:Around}{E:Value->Shared->Prop}{Q:Value->Shared->Prop}{c:Value}{b:Bool}
inductive lO(K:PySem.W.Frag)(H:Hp):V->Value->Prop where|aW:lO K H .aW (.type "NoneType")|bl(x:Bool):lO K H (.bl x) (.type "bool")|int(i:Int):lO K H (.int i) (.type "int")|str(x:Str):lO K H (.str x) (.type "str")|Z9(x:UInt64):lO K H (.Z9 x) (.type "float")|lst{a:Addr}{xs:List V}(e:H a=some (.lst xs)):lO K H (.ref a) (.type "list")|FA{a:Addr}{o:Obj}{xs:List V}(e:H a=some (.FA o (.lst xs))):lO K H (.ref a) (.type "list")|tup{a:Addr}{xs:List V}(e:H a=some (.tup xs)):lO K H (.ref a) (.type "tuple")|dK{a:Addr}{aH:List (Key×V)}(e:H a=some (.dK aH)):lO K H (.ref a) (.type "dict")|dT{a:Addr}{aH:List (List Key×V)}(e:H a=some (.dT aH)):lO K H (.ref a) (.type "dict")|ins{a C dx:Addr}{fs:List (Str×V)}(e:H a=some (.ins C dx fs))(cl:Cls K C)(ha:PySem.W.findIn K (.ref C) "__class__"=some (some (.builtin "object.__class__")))(hn:PySem.W.specialIn K (.builtin "object.__class__") "__get__"=some (some (.builtin "getset_descriptor.__get__")))(htk:PySem.W.takesIn K (.builtin "object.__class__")=some true)(hm:PySem.W.mroIn K C (.type "object")=some true):lO K H (.ref a) (.ref C)
theorem Np{x:V}{u t:Value}(I:Inv X pins σ H s)(f:RelV x u)(ty:lO X.K H x t)(e:PySem.W.kitOne X.K t c=some b)(h:∀tk,Q (.bool b) {s with toks:=tk}):wpAny (model X.prog X.w) A (call (.builtin "isinstance") [u,c]) Q E s:=by cases ty with|aW=>cases(show u=Value.none from f);exact PySem.W.kia_one PySem.W.kitx_none I.kI True.intro e (λz=>nomatch z) h|bl y=>cases(show u=Value.bool y from f);exact PySem.W.kia_one PySem.W.kitx_bool I.kI True.intro e (λz=>nomatch z) h|int i=>obtain⟨t,q⟩:=(show∃t,u=Value.int i t from f);cases q;exact PySem.W.kia_one PySem.W.kitx_int I.kI True.intro e (λz=>nomatch z) h|str y=>obtain⟨t,q⟩:=(show∃t,u=Value.str y t from f);cases q;exact PySem.W.kia_one PySem.W.kitx_str I.kI True.intro e (λz=>nomatch z) h|Z9 y=>obtain⟨t,q⟩:=(show∃t,u=Value.float y t from f);cases q;exact PySem.W.kia_one PySem.W.kitx_float I.kI True.intro e (λz=>nomatch z) h|@lst a xs d=>cases(show u=Value.ref a from f);obtain⟨_,_,n,_,h1⟩:=(show cI X.prog X.w H s.heap a (.lst xs)from I.b9 a _ d);exact PySem.W.kia_one PySem.W.kitx_list I.kI ⟨_,h1,rfl⟩ e (λz=>nomatch z) h|@FA a ob xs d=>cases(show u=Value.ref a from f);obtain⟨_,_,_,n,_,h1⟩:=(show cI X.prog X.w H s.heap a (.FA ob (.lst xs))from I.b9 a _ d);exact PySem.W.kia_one PySem.W.kitx_list I.kI ⟨_,h1,rfl⟩ e (λz=>nomatch z) h|@tup a xs d=>cases(show u=Value.ref a from f);obtain⟨_,_,_,p⟩:=(show cI X.prog X.w H s.heap a (.tup xs)from I.b9 a _ d);obtain⟨o,h1,h2,_⟩:=p;exact PySem.W.kia_one PySem.W.kitx_tuple I.kI ⟨o,h1,h2⟩ e (λz=>nomatch z) h|@dK a aH d=>cases(show u=Value.ref a from f);obtain⟨_,_,vs,_,p⟩:=(show cI X.prog X.w H s.heap a (.dK aH)from I.b9 a _ d);obtain⟨o,es,ep,h1,h2,_⟩:=p;exact PySem.W.kia_one PySem.W.kitx_dict I.kI ⟨o,h1,h2.1⟩ e (λz=>nomatch z) h|@dT a aH d=>cases(show u=Value.ref a from f);obtain⟨_,_,xs,_,o,es,ep,h1,h2,_⟩:=(show cI X.prog X.w H s.heap a (.dT aH)from I.b9 a _ d);exact PySem.W.kia_one PySem.W.kitx_dict I.kI ⟨o,h1,h2.1⟩ e (λz=>nomatch z) h|@ins a C dx fs d cl ha hn htk hm=>cases(show u=Value.ref a from f);obtain⟨mA,O,_⟩:=SX I.b9 d;obtain⟨od,J,_⟩:=O.look;exact PySem.W.kia_one (PySem.W.kitx_own (cl.get _) cl.hd ha hn htk hm) I.kI J e (λz=>nomatch z) h
end
structure da(k:Nat)(A:Around):Prop where
 dp:A.depth+3*k+5<recursionLimit
 un:A.units+16*k+200<cLine
 hd:130<=k->A.handled=none
theorem da.mono{j k:Nat}{A:Around}(r:da k A)(h:j<=k):da j A:=⟨by have :=r.dp;lia,by have :=r.un;lia,λz=>r.hd (by lia)⟩
theorem da.deeper{k:Nat}{A:Around}(r:da (k+1) A)(env:Env):da k (A.deeper env):=⟨by have :=r.dp;show A.depth+1+3*k+5<_;lia,by have :=r.un;show A.units+3+16*k+200<_;lia,λz=>r.hd (by lia)⟩
theorem da.depth{k:Nat}{A:Around}(r:da k A):A.depth<recursionLimit:=by have :=r.dp;lia
theorem da.units{k:Nat}{A:Around}(r:da k A):A.units+64<cLine:=by have :=r.un;lia
noncomputable def Xo:TA:=λ_ H Q=>Q [] H
noncomputable def KP(c:TE)(d:TA):TA:=λσ H Q=>c σ H λx a=>d σ a λxs b=>Q (x::xs) b
section
variable{X:Cx}{e:Expr}{es:List Expr}{te:TE}{t:TA}{pos:Pos}
theorem ag:PA X [] Xo:=λ_ _ _ _ H Q I h=>Calls.spliced_nil ⟨[],H,I, .nil,h⟩
theorem ae(ha:PE X e te)(f:PA X es t)(g:starEach (e::es) X.env=(false,eval e X.env)::starEach es X.env:=by rfl):PA X (e::es) (KP te t):=by intro pos pins s σ H Q I h;rw[g];show wpAny _ _ (spliced ((false,eval e X.env)::backTo pos (starEach es X.env))) _ _ s;refine Calls.spliced_cons (bX (ha pins s σ H _ I h) λu s1 k=>?_);obtain⟨x,a,c,i,q1⟩:=k;exact bX (f pos pins s1 σ a _ c q1) λus s2⟨xs,b,d,j,q2⟩=>⟨x::xs,b,d, .cons i j,q2⟩
noncomputable def aa4(t:TA):TE:=λσ H Q=>t σ H λxs a=>xs.length<=sizeLine/\∀p,a p=none->Q (.ref p) (upd a p (.tup xs))
noncomputable def Y7(t:TA):TE:=λσ H Q=>t σ H λxs a=>xs.length<=sizeLine/\∀p,a p=none->Q (.ref p) (upd a p (.lst xs))
theorem av{d}(h:PA X es t):PE X (.Tuple es d pos) (aa4 t):=by intro pins s σ H Q I hq;refine wpAny_Tuple_spliced (bX (h pos pins s σ H _ I hq) λus s1⟨xs,a,c,r,z,q⟩=>⟨by rw[<-r.length];exact z,?_⟩);have hf:a s1.heap.objs.size=none:=c.b9.fresh (bK _);refine⟨.ref s1.heap.objs.size,upd a s1.heap.objs.size (.tup xs),c.laid (t':=s1.toks) (λb u e=>b_ _ e) (bK _) ?_,rfl,q _ hf⟩;exact⟨z,us,r,⟨_,gT _ rfl,rfl,_,rfl⟩⟩
theorem cq(h:PA X es t):PE X (.List es pos) (Y7 t):=by intro pins s σ H Q I hq;refine wpAny_List_spliced (bX (h pos pins s σ H _ I hq) λus s1⟨xs,a,c,r,z,q⟩=>⟨by rw[<-r.length];exact z,?_⟩);have hf:a s1.heap.objs.size=none:=c.b9.fresh (bK _);refine⟨.ref s1.heap.objs.size,upd a s1.heap.objs.size (.lst xs),c.laid (t':=s1.toks) (λb u e=>b_ _ e) (bK _) ?_,rfl,q _ hf⟩;exact⟨z,us,0,r,gT _ rfl⟩
end
noncomputable abbrev Sp:=List V->Hp->VK->XK->Prop
noncomputable abbrev oJ:=Option Value->List Env->Hp->Shared->XK->Value->Shared->Prop
structure Fi(P:Program)(w:World)(K:PySem.W.Frag)(mg:Str->Option Value)(base:Heap)(A:Around)(outer:List Env)(s:Shared)(H:Hp):Prop where
 frames:A.frames=some outer
 mod:Mod K mg base
 bs:∀b o,base.get? b=some o->s.heap.get? b=some o/\H b=none
 FD:base.objs.size<=s.heap.objs.size
 jw:s.heap.FunFrames base outer
 Sh:∀b∈jQ outer,H b=none
 b9:jN P w H s.heap
 bare:AllBare s.gens
 hdl:HB base A
noncomputable def CE(outer:List Env)(P:Program)(w:World)(H:Hp)(s:Shared)(Q:VK)(u:Value)(s':Shared):Prop:=∃v H',s'.os=s.os/\AllBare s'.gens/\Un (jQ outer) [] H H' s.heap s'.heap/\jN P w H' s'.heap/\RelV v u/\Q v H'
noncomputable def CR(CX:oJ)(hh:Option Value)(outer:List Env)(P:Program)(w:World)(H:Hp)(s:Shared)(Q:VK)(E:XK)(r:Result)(s':Shared):Prop:=match r with| .ok (.ret u)=>CE outer P w H s Q u s'| .ok _=>False| .error e=>CX hh outer H s E e s'
structure oN(P:Program)(w:World)(K:PySem.W.Frag)(mg:Str->Option Value)(base:Heap)(CX:oJ)(k:Nat)(f:Addr)(fd:FuncData)(ps:List Str)(sp:Sp):Prop where
 len:∀vs H Q E,sp vs H Q E->vs.length=ps.length
 run:∀(A:Around)(outer:List Env)(s:Shared)(H:Hp)(args:Args)(us:List Value)(vs:List V)(Q:VK)(E:XK),da k A->Fi P w K mg base A outer s H->BindsTo s fd args (ps.zip us)->Vals vs us->sp vs H Q E->codeAny (model P w) A (.call (.ref f) args) (CR CX A.handled outer P w H s Q E) s
theorem oN.mono{P:Program}{w:World}{K:PySem.W.Frag}{mg:Str->Option Value}{base:Heap}{CX:oJ}{j k:Nat}{f:Addr}{fd:FuncData}{ps:List Str}{sp:Sp}(F:oN P w K mg base CX j f fd ps sp)(h:j<=k):oN P w K mg base CX k f fd ps sp:=⟨F.len,λA outer s H args us vs Q E a=>F.run A outer s H args us vs Q E (a.mono h)⟩
section
variable{X:Cx}{pins:List (Addr×Obj)}{σ:St}{H:Hp}{s s':Shared}
theorem Inv.after{Q:VK}{u:Value}(I:Inv X pins σ H s)(h:CE X.stack X.prog X.w H s Q u s'):EP X pins σ Q u s':=by obtain⟨v,H',os,bare,un,b9,r,q⟩:=h;obtain⟨hh,g,d,t,a⟩:=s';obtain rfl:a=s.os:=os;exact⟨v,H',I.call (h':=hh) (g':=g) (d':=d) (t':=t) (ch:=[]) un b9 bare (λb z=>absurd z (by simp)),r,q⟩
end
noncomputable def Wy(sp:Sp)(b:List V)(E:XK)(t:TA):TE:=λσ H Q=>t σ H λvs a=>sp (vs++b) a Q E
noncomputable def Binds(K:PySem.W.Frag)(fd:FuncData)(ps:List Str)(ds:List Value):Prop:=∀(s:Shared)(us:List Value),K.In s.heap->(us++ds).length=ps.length->BindsTo s fd ⟨us,[]⟩ (ps.zip (us++ds))
theorem Binds.all{K:PySem.W.Frag}{fd:FuncData}{ps:List Str}(h:∀us:List Value,us.length=ps.length->bindArgs fd ⟨us,[]⟩=pure (ps.zip us)):Binds K fd ps []:=λs us _ hl=>by rw[kS]at hl⊢;exact .of_eq (h us hl)
def Passes(CX:oJ)(X:Cx)(E:XK):Prop:=∀(pins:List (Addr×Obj))(σ:St)(H:Hp)(s:Shared)(e:Value)(s':Shared),Inv X pins σ H s->CX X.A.handled X.stack H s E e s'->X.xe e s'
section
variable{X:Cx}{CX:oJ}{k:Nat}{f C:Addr}{fd:FuncData}{ps:List Str}{sp:Sp}{dvs:List V}{ds:List Value}{E:XK}{x m:Str}{p pos apos:Pos}{e o:Expr}{es:List Expr}{ta:TE}{t:TA}
end
noncomputable def PK(X:Cx)(a:List Keyword)(t:TA):Prop:=∀(b:Pos)(pins:List (Addr×Obj))(s:Shared)(σ:St)(H:Hp)(Q:List V->Hp->Prop),Inv X pins σ H s->t σ H Q->wpAny (model X.prog X.w) X.A (evalAll ((backToKw b (keywordEach a X.env)).map (·.2))) (AP X pins σ Q) X.xe s
section
variable{X:Cx}{CX:oJ}{k:Nat}{f C:Addr}{fd:FuncData}{ps ks:List Str}{sp:Sp}{E:XK}{x m:Str}{p pos apos aeM:Pos}{e o:Expr}{es:List Expr}{kws:List Keyword}{te ta:TE}{t tk:TA}{nm:Option Str}
theorem Yo:PK X [] Xo:=λ_ _ _ _ H Q I h=>wpAny_evalAll_nil ⟨[],H,I, .nil,h⟩
theorem Ua(ha:PE X e te)(g:PK X kws t):PK X (⟨nm,e,aeM⟩::kws) (KP te t):=by intro pos pins s σ H Q I h;show wpAny _ _ (evalAll ((do let v<-eval e X.env;standAt pos;pure v)::(backToKw pos (keywordEach kws X.env)).map (·.2))) _ _ s;refine wpAny_evalAll_cons (aA (bX (ha pins s σ H _ I h) λu s1⟨x,a,c,i,q1⟩=>aA (wpAny_standAt (bB ?_))));exact bX (g pos pins s1 σ a _ c q1) λus s2⟨xs,b,d,j,q2⟩=>⟨x::xs,b,d, .cons i j,q2⟩
end
structure aT(N P:List Str)(sc:Scope):Prop where
 kind:sc.kind= .function
 co:sc.isCoroutine=false
 gen:sc.isGenerator=false
 nd:N.Nodup
 pre:N.take P.length=P
 par:∀x∈P,sc.names.lookup x=some .local\/sc.names.lookup x=some .cell
 Yb:∀y∈sc.names,y.2≠ .free
theorem AO{kindOf:Str->Option NameKind}{x:Str}:∀{binds:List (Str×Value)}{m:Str->Option Value},(∀v,(x,v)∉binds)->bindL kindOf binds m x=m x
 |[],_,_=>rfl
 |(n,v)::r,m,h=>by
  unfold bindL;rw[AO λw hw=>h w (dW _ hw)];split
  ·have :x≠n:=by rintro rfl;exact h v d4
   simp[this]
  ·rfl
theorem z3{kindOf:Str->Option NameKind}{x:Str}:∀{binds:List (Str×Value)}{m:Str->Option Value},(∀v,(x,v)∉binds)->bindC kindOf binds m x=m x
 |[],_,_=>rfl
 |(n,v)::r,m,h=>by
  unfold bindC;rw[z3 λw hw=>h w (dW _ hw)];split;·rfl
  ·have :x≠n:=by rintro rfl;exact h v d4
   simp[this]
theorem Ay{kindOf:Str->Option NameKind}{x:Str}{v:Value}:∀{P:List Str}{vs:List Value}{i:Nat}{m:Str->Option Value},P.Nodup->P[i]?=some x->vs[i]?=some v->kindOf x=some .local->bindL kindOf (P.zip vs) m x=some v|[],_,_,_,_,h,_,_=>by simp at h|_::_,[],_,_,_,_,h,_=>by simp at h|p::P,w::vs,0,m,nd,h1,h2,a=>by simp at h1 h2;subst h1;subst h2;show bindL kindOf ((p,w)::P.zip vs) m p=_;unfold bindL;rw[AO λv b=>(List.nodup_cons.mp nd).1 (List.of_mem_zip b).1,if_pos a];simp|p::P,w::vs,i+1,m,nd,h1,h2,a=>by show bindL kindOf ((p,w)::P.zip vs) m x=_;unfold bindL;exact Ay (i:=i) (List.nodup_cons.mp nd).2 (by simpa using h1) (by simpa using h2) a
theorem zZ{kindOf:Str->Option NameKind}{x:Str}{v:Value}:∀{P:List Str}{vs:List Value}{i:Nat}{m:Str->Option Value},P.Nodup->P[i]?=some x->vs[i]?=some v->kindOf x≠some .local->bindC kindOf (P.zip vs) m x=some v|[],_,_,_,_,h,_,_=>by simp at h|_::_,[],_,_,_,_,h,_=>by simp at h|p::P,w::vs,0,m,nd,h1,h2,a=>by simp at h1 h2;subst h1;subst h2;show bindC kindOf ((p,w)::P.zip vs) m p=_;unfold bindC;rw[z3 λv b=>(List.nodup_cons.mp nd).1 (List.of_mem_zip b).1,if_neg a];simp|p::P,w::vs,i+1,m,nd,h1,h2,a=>by show bindC kindOf ((p,w)::P.zip vs) m x=_;unfold bindC;exact zZ (i:=i) (List.nodup_cons.mp nd).2 (by simpa using h1) (by simpa using h2) a
noncomputable def start(N:List Str)(vs:List V):St:=vs.map some++List.replicate (N.length-vs.length) none
noncomputable def fh(CX:oJ)(P:Program)(w:World)(K:PySem.W.Frag)(mg:Str->Option Value)(base:Heap)(N:List Str)(qual:Str)(scope:Scope)(f:Addr)(cd:Value)(A:Around)(outer:List Env)(s:Shared)(H:Hp)(E:XK):Cx where prog:=P;w:=w;K:=K;mg:=mg;base:=base;A:=A.deeper (envOfC qual scope s.heap.objs.size f cd);N:=N;cC:=s;H₀:=H;env:=envOfC qual scope s.heap.objs.size f cd;outer:=outer;stack:=envOfC qual scope s.heap.objs.size f cd::outer;ex:=[];calm:=true;fn:=λ_=>true;pn:=[];xe:=λe s'=>wpAny (model P w) (A.deeper (envOfC qual scope s.heap.objs.size f cd)) (leaving (envOfC qual scope s.heap.objs.size f cd) e) (λ_ a=>CX A.handled outer H s E e a) (λe' a=>CX A.handled outer H s E e' a) s'
theorem Dd{sc:Scope}{n:Nat}{x:Str}(h:sc.names.lookup x=some .cell):∃c,(cellsFrom n sc.names []).lookup x=some c:=by have q:=PySem.W.cellsFrom_some sc.names n [] (.inl h);exact Option.isSome_iff_exists.mp q
theorem Nm{CX:oJ}{P:Program}{w:World}{K:PySem.W.Frag}{mg:Str->Option Value}{base:Heap}{N ps:List Str}{qual:Str}{scope:Scope}{f:Addr}{cd:Value}{A:Around}{outer:List Env}{s s1:Shared}{H:Hp}{E:XK}{us:List Value}{vs:List V}(S:aT N ps scope)(e0:Fi P w K mg base A outer s H)(hl:vs.length=ps.length)(r:Vals vs us)(x:InCallC s s.heap.objs.size (bindL (envOfC qual scope s.heap.objs.size f cd).kindOf (ps.zip us) λ_=>none) (cellsFrom (s.heap.objs.size+1) scope.names []) (bindC (envOfC qual scope s.heap.objs.size f cd).kindOf (ps.zip us) λ_=>none) s1):Inv (fh CX P w K mg base N qual scope f cd A outer s H E) [] (start N vs) H s1:=by
 have t:ps.length<=N.length:=by have :=congrArg List.length S.pre;rw[List.length_take]at this;lia
 obtain⟨h1,tk,rfl,j⟩:=x.done;have g:∀b:Addr,b∉(fh CX P w K mg base N qual scope f cd A outer s H E).ex:=λb z=>absurd (show b∈([]:List Addr)from z) (by simp);refine⟨⟨e0.mod,S.kind,rfl,rfl,bK _,λy z c h1 h2=>?_,λy d=>?_,λy c _ h=>?_,λ_=>e0.hdl.toP,Around.frames_deeper e0.frames, .inr ⟨rfl,rfl⟩,λb z=>absurd z (g b),e0.bs,e0.FD,λb _ _=>g b,λb z=>absurd z (g b),e0.jw,e0.Sh⟩,rfl,e0.bare,Un.kept j,⟨_,x.toInCall.ns,λi y v h1 h2 h3=>?_⟩,λy c h=>⟨_,x.cell y c h⟩,e0.b9.fresh (bK _),λy c h=>?_,λp hp=>absurd (show p∈([]:List (Addr×Obj))from hp) (by simp),e0.b9.kept j,?_⟩;·exact name_of_addr x.apart (PySem.mem_of_lookup h1) (PySem.mem_of_lookup h2)
 ·have d:scope.names.lookup y=some .cell\/scope.names.lookup y=some .free:=d;rcases d with d|d;·exact Dd d
  ·exact absurd rfl (S.Yb _ (PySem.mem_of_lookup d))
 ·exact Nat.le_of_lt (x.above y c (PySem.mem_of_lookup h))
 ·have hi:i<vs.length:=by
   unfold start at h2;by_cases hi:i<vs.length;·exact hi
   ·rw[List.getElem?_append_right (by simpa using hi)]at h2;rw[List.getElem?_replicate]at h2;split at h2<;>cases h2
  have ha:vs[i]?=some v:=by unfold start at h2;rw[Fx (by simpa using hi),List.getElem?_map]at h2;cases e:vs[i]? with|none=>rw[e]at h2;cases h2|some a=>rw[e]at h2;cases h2;rfl
  obtain⟨u,l,o⟩:=r.get ha;have hp:ps[i]?=some y:=by rw[<-S.pre,List.getElem?_take_of_lt (by lia)];exact h1
  have m:ps.Nodup:=by rw[<-S.pre];exact S.nd.sublist (List.take_sublist _ _)
  refine⟨u,o,?_⟩;rcases S.par y (zK hp)with k|k;·exact .inl ⟨k,Ay m hp l k⟩
  ·obtain⟨c,e⟩:=Dd (n:=s.heap.objs.size+1) k;refine .inr ⟨.inl k,c,e,?_⟩;have q:=x.cell y c e;rw[zZ m hp l (by show scope.names.lookup y≠_;rw[k];decide)]at q;exact q
 ·exact e0.b9.fresh (Nat.le_of_lt (x.above y c (PySem.mem_of_lookup h)))
 ·unfold start;show _=N.length;rw[iJ,dI,List.length_replicate];lia
theorem JZ{CX:oJ}{P:Program}{w:World}{K:PySem.W.Frag}{mg:Str->Option Value}{base:Heap}{k:Nat}{f:Addr}{name qual:Str}{params:Arguments}{body:List Stmt}{scope:Scope}{g kV doc pm cS ct oc:Value}{an od:Option Addr}{Fn:Array (Option Value)}{N ps:List Str}{sp:Sp}(C:K.lookup f=some ⟨oc,od, .func (PySem.W.fnOf name qual params body scope g kV doc pm an cS ct),Fn⟩)(l:PySem.W.codeIn K cS qual=true)(S:aT N ps scope)(len:∀vs H Q E,sp vs H Q E->vs.length=ps.length)(j:∀(A:Around)(outer:List Env)(s:Shared)(H:Hp)(vs:List V)(Q:VK)(E:XK),da k (A.deeper (envOfC qual scope s.heap.objs.size f cS))->sp vs H Q E->∃t,iz (fh CX P w K mg base N qual scope f cS A outer s H E) body t/\t {nx:=λ_ H'=>Q .aW H',rt:=Q} (start N vs) H):oN P w K mg base CX (k+1) f (PySem.W.fnOf name qual params body scope g kV doc pm an cS ct) ps sp:=by
 refine⟨len,λA outer s H args us vs Q E h e0 hb r i=>?_⟩;have hl:=len _ _ _ _ i;have KX:K.In s.heap:=e0.mod.Mt.keeps λb o e=>(e0.bs b o e).1;have B:s.heap.NoLimit:=e0.mod.nolimit.keeps λb o e=>(e0.bs b o e).1;have p:∀y∈ps.zip us,scope.names.lookup y.1=some .local\/(scope.names.lookup y.1=some .cell/\((cellsFrom (s.heap.objs.size+1) scope.names []).lookup y.1).isSome=true):=λ⟨n,v⟩z=>by
  rcases S.par n (List.of_mem_zip z).1 with q|q;·exact .inl q
  ·exact .inr ⟨q,PySem.W.cellsFrom_some _ _ _ (.inl q)⟩
 refine codeAny_call_function h.depth (KX _ _ C) rfl S.co S.gen rfl (PySem.W.codeRec_of KX l) (hb _ _ _ _ ?_);refine wpAny_newFunctionEnv_cells S.kind p λenv m s1 x=>?_;subst m;refine⟨B.keeps x.toInCall.keep,codeAny_func ?_⟩;obtain⟨t,ht,hq⟩:=j A outer s H vs Q E (h.deeper _) i;have I:Inv (fh CX P w K mg base N qual scope f cS A outer s H E) [] (start N vs) H s1:=Nm S e0 hl r x;refine gm (ht [] s1 (start N vs) H _ I hq) (λfl s' a=>?_) λe s' a=>a;have fin:∀{c:St}{H':Hp}{v:V}{u:Value},Inv (fh CX P w K mg base N qual scope f cS A outer s H E) [] c H' s'->RelV v u->Q v H'->CE outer P w H s Q u s':=λ{c H' v u}J d q=>⟨v,H',J.os,J.bare,J.base,J.b9,d,q⟩;cases fl with|ret u=>obtain⟨v,c,H',J,d,q⟩:=a;exact fin J d q|next=>obtain⟨c,H',J,q⟩:=a;exact fin (v:=V.aW) (u:=Value.none) J rfl q|brk=>obtain⟨_,_,_,q⟩:=a;exact False.elim q|cont=>obtain⟨_,_,_,q⟩:=a;exact False.elim q
section
variable{X:Cx}{x:Str}{p pos:Pos}{e:Expr}{es:List Expr}{t:TA}{id T:String}{r:List V->Hp->VK->Prop}
noncomputable def tCB(r:List V->Hp->VK->Prop)(t:TA):TE:=λσ H Q=>t σ H λvs a=>r vs a Q
theorem bj(hc:iP X (.builtin id) r)(f:Gl X x)(hm:X.mg x=none)(i:bootBuiltins x=some (.builtin id))(ha:PA X (e::es) t)(hn:x≠"__name__":=by decide)(c:(x==("__debug__":Str))=false:=by decide)(d:starEach (e::es) X.env=(false,eval e X.env)::starEach es X.env:=by rfl)(g:(backTo pos (starEach es X.env)).any (·.1)=false:=by rfl):PE X (.Call (.Name x p) (e::es) [] pos) (tCB r t):=by intro pins s σ H Q I h;refine zT (lT I f hm i ?_ hn c);exact PyProof.Rows.callWith_builtin1 (bX (ha pos pins s σ H _ I h) λus s1⟨vs,a,b,j,q1⟩=>hc pins s1 σ a vs us Q b j q1) d g
theorem fA(hc:iP X (.type T) r)(f:Gl X x)(hm:X.mg x=none)(i:bootBuiltins x=some (.type T))(ha:PA X (e::es) t)(hn:x≠"__name__":=by decide)(c:(x==("__debug__":Str))=false:=by decide)(d:starEach (e::es) X.env=(false,eval e X.env)::starEach es X.env:=by rfl)(g:(backTo pos (starEach es X.env)).any (·.1)=false:=by rfl):PE X (.Call (.Name x p) (e::es) [] pos) (tCB r t):=by intro pins s σ H Q I h;refine zT (lT I f hm i ?_ hn c);exact PyProof.Rows.callWith_type1 (bX (ha pos pins s σ H _ I h) λus s1⟨vs,a,b,j,q1⟩=>hc pins s1 σ a vs us Q b j q1) d g
end
end L2
end
section
namespace HT
open PySem PyProof.Rows
section
open PySem.SeqAt
open PySem.AutoSeq1(wpAny_loadPart')
open PySem.MeetsSeq PySem.MeetsSeq2 PySem.MeetsSeq3
end
section
variable{prog:Program}{w:World}{A:Around}{E:Value->Shared->Prop}{s:Shared}
theorem Sz{t b:Addr}{vs ws:List Value}{Q:Value->Shared->Prop}(ht:IsTup s.heap t vs.toArray)(hb:IsTup s.heap b ws.toArray)(i:vs≠[])(h1:ws=[]->Q (.ref t) s)(h2:ws≠[]->Q (.ref s.heap.objs.size) {s with heap:=s.heap.push {cls:= .type "tuple",data:= .seq (vs++ws).toArray}})(hsz:vs.length+ws.length<=sizeLine):wpAny (model prog w) A (binaryOp .Add (.ref t) (.ref b)) Q E s:=by
 obtain⟨⟨cls,d,data,sl⟩,a,hc,n,hd⟩:=id ht;obtain⟨⟨l,f,data2,k⟩,c,g,j,h⟩:=id hb;simp only at hc hd g h;subst hc hd g h;have e:vs.toArray++ws.toArray=(vs++ws).toArray:=by simp
 by_cases hw:ws=[];·exact concat_meets ⟨_,a,rfl⟩ ⟨_,c,rfl⟩ noFill_tuple_add seq_tuple_add PySem.F.slot_tuple_add PySem.F.entry_tuple_add (PySem.F.args_tuple_add_2 _ _) (tuple_addW1 t b vs.toArray ws.toArray n j d f sl k (by simpa using i) (by simp[hw])) ⟨a,c,h1 hw⟩
 ·refine concat_meets ⟨_,a,rfl⟩ ⟨_,c,rfl⟩ noFill_tuple_add seq_tuple_add PySem.F.slot_tuple_add PySem.F.entry_tuple_add (PySem.F.args_tuple_add_2 _ _) (tuple_addW2 t b vs.toArray ws.toArray n j d f sl k (by simpa using i) (by simpa using hw) (by rw[dq,dq];exact hsz)) ⟨a,c,?_⟩;rw[e];exact h2 hw
noncomputable def eF(n d:Nat):Option Int->Nat|none=>d|some v=>if v<0 then(v+(n:Int)).toNat else min v.toNat n
theorem Fw(n d:Nat):eF n d none=d:=rfl
theorem Lf(n d k:Nat):eF n d (some (k:Int))=min k n:=by show(if(k:Int)<0 then((k:Int)+(n:Int)).toNat else min (k:Int).toNat n)=min k n;rw[if_neg (by lia),Int.toNat_natCast]
theorem YS(n d:Nat)(hd:d<=n)(o:Option Int):eF n d o<=n:=by
 cases o with
  |none=>exact hd
  |some v=>
   show(if v<0 then(v+(n:Int)).toNat else min v.toNat n)<=n;by_cases a:v<0;·rw[if_pos a];lia
   ·rw[if_neg a];exact Nat.min_le_right _ _
theorem IP(v:Int)(n d:Nat):(if v<0 then max (v+(n:Int)) 0 else min v (n:Int))=((eF n d (some v):Nat):Int):=by
 show(if v<0 then max (v+(n:Int)) 0 else min v (n:Int))=(((if v<0 then(v+(n:Int)).toNat else min v.toNat n):Nat):Int);by_cases a:v<0;·simp only[if_pos a];lia
 ·simp only[if_neg a];lia
theorem Hc(lo hi:Option Int)(n:Nat):Builtin.Slice.sliceAdjust lo hi 1 (n:Int)=(((eF n 0 lo:Nat):Int),((eF n n hi:Nat):Int)):=by
 have h1:¬((1:Int)<0):=by lia
 unfold Builtin.Slice.sliceAdjust;simp only[h1,if_false];refine Prod.ext ?_ ?_;·cases lo with|none=>rfl|some v=>exact IP v n 0
 ·cases hi with|none=>rfl|some v=>exact IP v n n
theorem HA(i j:Nat):Builtin.Slice.slicePlaces (i:Int) (j:Int) 1=j-i:=by
 unfold Builtin.Slice.slicePlaces;have h1:(1:Int)>0:=by lia
 simp only[h1,if_true,Int.ediv_one];split<;>lia
theorem yE{v:Value}{o:Option Int}{Q:Option Int->Shared->Prop}(p:IsPart v o)(h:Q o s):wpAny (model prog w) A (Builtin.Slice.slicePartIndex v) Q E s:=by cases p with|none=>exact slicePart_none h|int i t=>exact slicePart_int h
theorem iD{sl:Addr}{c d:Value}{lo hi:Option Int}{n:Nat}{Q:Int×Int×Nat->Shared->Prop}(e:s.heap.IsSliceOf sl c d .none)(pl:IsPart c lo)(f:IsPart d hi)(h:Q (((eF n 0 lo:Nat):Int),1,eF n n hi-eF n 0 lo) s):wpAny (model prog w) A (Builtin.Slice.sliceApplied (.ref sl) (pure (n:Int))) Q E s:=by obtain⟨os,b,g,a⟩:=id e;unfold Builtin.Slice.sliceApplied Builtin.Slice.sliceFields;refine aA (aA (fg b a (x:=c) rfl (aA (fg b a (x:=d) rfl (aA (fg b a (x:= .none) rfl (bB ?_)))))));refine aA (slicePart_none ?_);show wpAny _ _ (if((1:Int)==0)=true then _ else _) _ _ s;rw[if_neg (by decide)];refine aA (yE pl (aA (yE f (aA (bB ?_)))));show wpAny _ _ (match Builtin.Slice.sliceAdjust lo hi 1 (n:Int)with|(lo,hi)=>pure (lo,(1:Int),Builtin.Slice.slicePlaces lo hi 1)) _ _ s;rw[Hc lo hi n];show wpAny _ _ (pure (((eF n 0 lo:Nat):Int),(1:Int),Builtin.Slice.slicePlaces ((eF n 0 lo:Nat):Int) ((eF n n hi:Nat):Int) 1)) _ _ s;rw[HA];exact bB h
theorem PN(xs:Array Value)(i k:Nat):((List.range k).filterMap λ(m:Nat)=>xs[((i:Int)+(m:Int)*1).toNat]?).toArray=((xs.toList.drop i).take k).toArray:=by
 have e:(λ(m:Nat)=>xs[((i:Int)+(m:Int)*1).toNat]?)=λm=>xs[i+m]?:=by
  funext m;have :((i:Int)+(m:Int)*1).toNat=i+m:=by lia
  rw[this]
 rw[e];have :=pick_run xs i k;rw[List.filterMap_map]at this;have e2:((λx=>xs[x]?)∘λx=>i+x)=λm=>xs[i+m]?:=rfl;rw[e2]at this;rw[this]
theorem nj{t sl:Addr}{items:Array Value}{c d:Value}{lo hi:Option Int}{Q:Value->Shared->Prop}(ht:IsTup s.heap t items)(b:s.heap.IsSliceOf sl c d .none)(pl:IsPart c lo)(j:IsPart d hi)(hw:¬(eF items.size 0 lo=0/\eF items.size items.size hi=items.size))(h:Q (.ref s.heap.objs.size) {s with heap:=s.heap.push {cls:= .type "tuple",data:= .seq ((items.toList.drop (eF items.size 0 lo)).take (eF items.size items.size hi-eF items.size 0 lo)).toArray}})(hsz:items.size<=sizeLine):wpAny (model prog w) A (getItem (.ref t) (.ref sl)) Q E s:=by
 have a:sizeOk (.seq ((items.toList.drop (eF items.size 0 lo)).take (eF items.size items.size hi-eF items.size 0 lo)).toArray):=by show((items.toList.drop (eF items.size 0 lo)).take (eF items.size items.size hi-eF items.size 0 lo)).toArray.size<=sizeLine;rw[dq,List.length_take,List.length_drop,Array.length_toList];lia
 have l:eF items.size items.size hi<=items.size:=YS _ _ (bK _) hi;obtain⟨os,i,f,k⟩:=id b;have e:s.TypeIs (.ref sl) "slice":=⟨os,i,f⟩;unfold getItem;try with_reducible refine jU ?_
 first|refine aA (bB ?_)|skip
 refine aA (wpAny_sequenceKey ht.typeIs (by decide) ?_);refine aA (wpAny_callSpecial?_slot (name:=Str.ofString "__getitem__") ht.typeIs PyProof.Rows.slot_tuple_getitem (qO PyProof.Rows.slot_tuple_getitem ht.typeIs entry_tuple_getitem ?_ (args_tuple_getitem _ _)));show wpAny _ _ (Builtin.Tuple.tupleItemsOf (.ref t)>>=_) _ _ s;refine aA (tupleItemsOf_ ht ?_);refine aA (wpAny_typeOf e ?_);rw[if_pos (by decide)];refine aA (iD b pl j ?_);have g:¬((((eF items.size 0 lo:Nat):Int)==0&&(1:Int)==1&&(eF items.size items.size hi-eF items.size 0 lo)==items.size)=true):=by intro q;rw[cY,cY]at q;have q1:((eF items.size 0 lo:Nat):Int)=0:=eq_of_beq q.1.1;have q2:eF items.size items.size hi-eF items.size 0 lo=items.size:=eq_of_beq q.2;exact hw ⟨by lia,by lia⟩
 show wpAny _ _ (if(((eF items.size 0 lo:Nat):Int)==0&&(1:Int)==1&&(eF items.size items.size hi-eF items.size 0 lo)==items.size)=true then _ else _) _ _ s;rw[if_neg g,PN];first|exact aA (m:=Builtin.Tuple.tupleExact _) (zP (bB ⟨_,rfl,bB h⟩) a)|exact aA (m:=Builtin.Tuple.tupleExact _) (zP (aA (bB (bB ⟨_,rfl,bB h⟩))) a)|exact aA (aA (m:=Builtin.Tuple.tupleExact _) (zP (bB (bB ⟨_,rfl,bB h⟩)) a))|exact aA (aA (m:=Builtin.Tuple.tupleExact _) (zP (bB ⟨_,rfl,bB h⟩) a))
end
end HT
end
section
namespace L2
open PySem PySem.Spec PyProof.Rows
noncomputable abbrev TO:=St->Hp->(Option Int->Hp->Prop)->Prop
noncomputable def PO(X:Cx)(e:Option Expr)(t:TO):Prop:=∀(pins:List (Addr×Obj))(s:Shared)(σ:St)(H:Hp)(Q:Option Int->Hp->Prop),Inv X pins σ H s->t σ H Q->wpAny (model X.prog X.w) X.A (evalPart e X.env) (λu s'=>∃o H',Inv X pins σ H' s'/\IsPart u o/\Q o H') X.xe s
noncomputable def UA:TO:=λ_ H Q=>Q none H
noncomputable def acJ(t:TE):TO:=λσ H Q=>t σ H λx a=>∃i,x= .int i/\Q (some i) a
section
variable{X:Cx}{e:Expr}{te:TE}{lo hi:Option Expr}{tl th:TO}{pos p2:Pos}
theorem dz:PO X none UA:=by intro pins s σ H Q I h;rw[evalPart_none];exact bB ⟨none,H,I, .none,h⟩
theorem fF(h:PE X e te):PO X (some e) (acJ te):=by intro pins s σ H Q I hw;rw[evalPart_some];refine bX (h pins s σ H _ I hw) λu s1 d=>?_;obtain⟨x,a,b,c,q1⟩:=d;obtain⟨i,rfl,q⟩:=q1;obtain⟨t,rfl⟩:=c;exact⟨some i,a,b, .int i t,q⟩
noncomputable def Tc(X:Cx)(r:V->Option Int->Option Int->Hp->VK->Prop):Prop:=∀(pins:List (Addr×Obj))(s:Shared)(σ:St)(H:Hp)(x:V)(v a b:Value)(lo hi:Option Int)(sl:Addr)(Q:VK),Inv X pins σ H s->RelV x v->s.heap.IsSliceOf sl a b .none->IsPart a lo->IsPart b hi->r x lo hi H Q->∃T id,typeLookup (.type T) "__getitem__"=pure (some (.builtin id))/\s.TypeIs v T/\wpAny (model X.prog X.w) X.A (getItem v (.ref sl)) (EP X pins σ Q) X.xe s
noncomputable def tSl(r:V->Option Int->Option Int->Hp->VK->Prop)(te:TE)(tl th:TO):TE:=λσ H Q=>te σ H λx a=>tl σ a λl b=>th σ b λu c=>r x l u c Q
theorem jS{r:V->Option Int->Option Int->Hp->VK->Prop}(y:Tc X r)(t:PE X e te)(hl:PO X lo tl)(z:PO X hi th):PE X (.Subscript e (.Slice lo hi none p2) pos) (tSl r te tl th):=by intro pins s σ H Q I h;refine Subscript_ (bX (t pins s σ H _ I h) λv s1 f=>?_);obtain⟨x,i,k,B,q1⟩:=f;refine wpAny_Slice (bX (hl pins s1 σ i _ k q1) λc s2⟨l,j,m,pl,q2⟩=>bX (z pins s2 σ j _ m q2) λd a f=>?_);obtain⟨u,g,n,A,q3⟩:=f;rw[evalPart_none];refine bB ?_;have o:Inv X pins σ g {a with heap:=a.heap.push {cls:= .type "slice",data:= .fields #[c,d, .none]}}:=n.kept (t':=a.toks) λb ob q=>b_ _ q;obtain⟨T,id,p,ht,w⟩:=y pins {a with heap:=a.heap.push {cls:= .type "slice",data:= .fields #[c,d, .none]}} σ g x v c d l u a.heap.objs.size Q o B (Heap.IsSliceOf.new ..) pl A q3;show wpAny (model X.prog X.w) X.A (subscriptTail e (.Slice lo hi none p2) v (.ref a.heap.objs.size)) (EP X pins σ Q) X.xe {a with heap:=a.heap.push {cls:= .type "slice",data:= .fields #[c,d, .none]}};exact tail_any (ops:=[.ref a.heap.objs.size,v]) ht p w (by with_unfolding_all rfl)
noncomputable def iX(xs:List V)(lo hi:Option Int):List V:=(xs.drop (HT.eF xs.length 0 lo)).take (HT.eF xs.length xs.length hi-HT.eF xs.length 0 lo)
theorem qp(xs:List V)(lo hi:Option Int):(iX xs lo hi).length<=xs.length:=by unfold iX;rw[List.length_take,List.length_drop];lia
noncomputable def aeH(K:PySem.W.Frag):V->Option Int->Option Int->Hp->VK->Prop:=λx lo hi H Q=>∃a xs,x= .ref a/\bS K H a xs/\¬(HT.eF xs.length 0 lo=0/\HT.eF xs.length xs.length hi=xs.length)/\∀p,H p=none->Q (.ref p) (upd H p (.tup (iX xs lo hi)))
theorem aag:Tc X (aeH X.K):=by
 intro pins s σ H x v k l lo hi sl Q I j d pl i h;obtain⟨a,xs,rfl,f,hw,q⟩:=h;cases j;obtain⟨g,r,ht,c⟩:=I.tuple f;have hlen:g.toArray.size=xs.length:=by rw[dq];exact r.length.symm
 refine⟨"tuple",_,PyProof.Rows.slot_tuple_getitem.lookup,ht.typeIs,?_⟩;refine HT.nj ht d pl i (by rw[hlen];exact hw) ?_ (by rw[hlen];exact c);rw[hlen];refine⟨.ref s.heap.objs.size,_,I.laid (t':=s.toks) (o:= .tup (iX xs lo hi)) (λb ob q=>b_ _ q) (bK _) ?_,rfl,q _ (I.b9.fresh (bK _))⟩;exact⟨c8 (qp xs lo hi) c,_,(r.drop (HT.eF xs.length 0 lo)).take (HT.eF xs.length xs.length hi-HT.eF xs.length 0 lo),IsTup.new _ _⟩
noncomputable def aa2(K:PySem.W.Frag):R2:=λx y H Q=>∃a b xs c,x= .ref a/\y= .ref b/\bS K H a xs/\bS K H b c/\xs≠[]/\xs.length+c.length<=sizeLine/\(c=[]->Q (.ref a) H)/\(c≠[]->∀p,H p=none->Q (.ref p) (upd H p (.tup (xs++c))))
theorem Vals.sg{xs:List V}{us:List Value}(r:Vals xs us):us=[]↔xs=[]:=by cases r with|nil=>simp|cons _ _=>simp
theorem SI:lj X (binaryOp .Add) (aa2 X.K):=by intro pins s σ H x y v u Q I j k h;obtain⟨a,b,xs,l,rfl,rfl,ha,hb,g,f,q1,q2⟩:=h;cases j;cases k;obtain⟨m,d,i,_⟩:=I.tuple ha;obtain⟨n,c,p2,_⟩:=I.tuple hb;refine HT.Sz i p2 (λz=>g (d.sg.mp z)) (λz=>⟨.ref a,H,I,rfl,q1 (c.sg.mp z)⟩) (λz=>?_) (by rw[<-d.length,<-c.length];exact f);refine⟨.ref s.heap.objs.size,_,I.laid (t':=s.toks) (o:= .tup (xs++l)) (λb ob q=>b_ _ q) (bK _) ?_,rfl,q2 (λw=>z (c.sg.mpr w)) _ (I.b9.fresh (bK _))⟩;exact⟨by rw[iJ];exact f,_,d.append c,IsTup.new _ _⟩
end
noncomputable def V0(n:Nat)(i:Int):Option Nat:=if 0<=i then(if i<n then some i.toNat else none)else if-(n:Int)<=i then some (i+n).toNat else none
noncomputable def lP{a:Type}(xs:List a)(i:Int):Option a:=(V0 xs.length i).bind λj=>xs[j]?
theorem JY{n:Nat}{i:Int}{j:Nat}(h:V0 n i=some j):seqIndex? i n=some j/\j<n/\-(n:Int)<=i/\i<n:=by
 unfold V0 at h;by_cases a:0<=i
 ·rw[if_pos a]at h;by_cases h1:i<n;·rw[if_pos h1]at h;have e:i.toNat=j:=Option.some.inj h;exact⟨by rw[seqIndex_of a h1,e],by lia,by lia,h1⟩
  ·rw[if_neg h1]at h;cases h
 ·rw[if_neg a]at h;by_cases h1:-(n:Int)<=i;·rw[if_pos h1]at h;have e:(i+n).toNat=j:=Option.some.inj h;exact⟨by rw[seqIndex_neg (by lia) h1,e],by lia,h1,by lia⟩
  ·rw[if_neg h1]at h;cases h
theorem CT{a:Type}{xs:List a}{i:Int}{v:a}(h:lP xs i=some v):∃j,seqIndex? i xs.length=some j/\xs[j]?=some v/\j<xs.length/\-(xs.length:Int)<=i/\i<xs.length:=by unfold lP at h;cases e:V0 xs.length i with|none=>rw[e]at h;cases h|some j=>rw[e]at h;obtain⟨h1,h2,h3,h4⟩:=JY e;exact⟨j,h1,h,h2,h3,h4⟩
theorem aE{a:Type}{xs:List a}{j:Nat}{v:a}(h:xs[j]?=some v):lP xs (j:Int)=some v:=by
 have b:j<xs.length:=(List.getElem?_eq_some_iff.mp h).1;have e:V0 xs.length (j:Int)=some j:=by unfold V0;rw[if_pos (by lia),if_pos (by lia)];simp
 unfold lP;rw[e];exact h
def TU(b:Expr):Prop:=∀o i,subscripted b false o i=operate [o,i] (getItem o i)
noncomputable def IxR(X:Cx)(r:R2):Prop:=∀(value slice:Expr)(pins:List (Addr×Obj))(s:Shared)(σ:St)(H:Hp)(x y:V)(v u:Value)(Q:VK),Inv X pins σ H s->RelV x v->RelV y u->r x y H Q->subscripted slice false v u=operate [v,u] (getItem v u)->wpAny (model X.prog X.w) X.A (subscriptTail value slice v u) (EP X pins σ Q) X.xe s
noncomputable def MtR(X:Cx)(id:String)(r:V->List V->Hp->VK->Prop):Prop:=∀(pins:List (Addr×Obj))(s:Shared)(σ:St)(H:Hp)(x:V)(xs:List V)(v:Value)(us:List Value)(Q:VK),Inv X pins σ H s->RelV x v->Vals xs us->r x xs H Q->wpAny (model X.prog X.w) X.A (call (.builtin id) (v::us)) (EP X pins σ Q) X.xe s
section
variable{X:Cx}{a b:Expr}{ta tb:TE}{pos:Pos}
theorem aP{r:R2}(e:IxR X r)(ha:PE X a ta)(hb:PE X b tb)(f:TU b):PE X (.Subscript a b pos) (Yq r ta tb):=by intro pins s σ H Q I h;exact Subscript_ (XI ha hb I h λv u s2 x y c d g i q=>e a b pins s2 σ c x y v u Q d g i q (f _ _))
noncomputable def SU(K:PySem.W.Frag):R2:=λx y H Q=>∃p xs i v,x= .ref p/\y= .int i/\bH K H p xs/\lP xs i=some v/\Q v H
noncomputable def ab5(K:PySem.W.Frag):R2:=λx y H Q=>∃p xs i v,x= .ref p/\y= .int i/\bS K H p xs/\lP xs i=some v/\Q v H
noncomputable def aeU:R2:=λx y H Q=>∃z i c,x= .str z/\y= .int i/\z.length<=sizeLine/\lP z.cps.toList i=some c/\Q (.str ⟨#[c]⟩) H
theorem bQ:IxR X (SU X.K):=by
 intro value slice pins s σ H x y v u Q I m n h f;obtain⟨p,xs,i,z,rfl,rfl,hq,g,q⟩:=h;cases m;obtain⟨t,rfl⟩:=n;obtain⟨k,r,pl,o⟩:=I.list hq;obtain⟨j,h1,h2,h3,h4,h5⟩:=CT g;obtain⟨w,d,l⟩:=r.get h2;have hl:=r.length;have hn:=xk;have fin:EP X pins σ Q w s:=⟨z,H,I,l,q⟩;by_cases e:0<=i
 ·have c:i.toNat=j:=by rw[seqIndex_of e h5]at h1;exact Option.some.inj h1
  exact item_listR pl.isList e (by lia) (by rw[c];simpa using d) fin f
 ·have c:(i+(k.toArray.size:Int)).toNat=j:=by rw[seqIndex_neg (by lia) h4]at h1;rw[dq,<-hl];exact Option.some.inj h1
  exact subscriptTail_builtinR (x:=w) pl.isList.typeIs slot_list_getitem.lookup (wpAny_getItem_list_neg (Q:=λr s'=>r=w/\EP X pins σ Q r s') pl.isList (by lia) (by rw[dq]<;>lia) (by lia) (by rw[c];simpa using d) ⟨rfl,fin⟩) f
theorem aR:IxR X (ab5 X.K):=by intro value slice pins s σ H x y v u Q I g k h e;obtain⟨p,xs,i,z,rfl,rfl,hq,d,q⟩:=h;cases g;obtain⟨t,rfl⟩:=k;obtain⟨m,r,pl,l⟩:=I.tuple hq;obtain⟨j,h1,h2,h3,h4,h5⟩:=CT d;obtain⟨w,c,f⟩:=r.get h2;have hl:=r.length;have hn:=xk;have fin:EP X pins σ Q w s:=⟨z,H,I,f,q⟩;exact subscriptTail_builtinR (x:=w) pl.typeIs slot_tuple_getitem.lookup (getItem_tuple (j:=j) (Q:=λr s'=>r=w/\EP X pins σ Q r s') pl (by lia) (by lia) (by rw[dq,<-hl];exact h1) (by simpa using c) ⟨rfl,fin⟩) e
theorem jk:IxR X aeU:=by
 intro value slice pins s σ H x y v u Q I f g h e;obtain⟨z,i,c,rfl,rfl,k,d,q⟩:=h;obtain⟨t,rfl⟩:=f;obtain⟨t',rfl⟩:=g;obtain⟨j,h1,h2,h3,h4,h5⟩:=CT d;have hl:z.cps.toList.length=z.length:=by simp[Str.length]
 rw[hl]at h1 h4 h5;have hn:=xk;exact tail_any (typeIs_str s z t) slot_str_getitem.lookup (getItem_str (c:=c) (by have e1:decide (i< -(2^63:Int))=false:=decide_eq_false (by lia);have e2:decide (i>=2^63)=false:=decide_eq_false (by lia);rw[e1,e2,Bool.or_false]) (by rw[h1];simpa using h2) ⟨.str ⟨#[c]⟩,H,I.tok _,⟨_,rfl⟩,q⟩) e
theorem G7(c:List Value)(n j:Nat)(u:Value):Obj.mapSeq (·.setIfInBounds j u) {cls:= .type "list",data:= .seq c.toArray n}={cls:= .type "list",data:= .seq (c.set j u).toArray n}:=by simp[Obj.mapSeq]
theorem Inv.lst{pins:List (Addr×Obj)}{σ:St}{H:Hp}{s:Shared}{p:Addr}{xs:List V}(I:Inv X pins σ H s)(h:H p=some (.lst xs)):∃(c:List Value)(n:Nat),Vals xs c/\s.heap.get? p=some {cls:= .type "list",data:= .seq c.toArray n}/\xs.length<=sizeLine:=by obtain⟨z,c,n,r,e⟩:=I.b9 p _ h;exact⟨c,n,r,e,z⟩
theorem Inv.YJ{pins:List (Addr×Obj)}{σ:St}{H:Hp}{s:Shared}{p:Addr}{xs d:List V}{g its':List Value}{n c:Nat}{f:Obj->Obj}(I:Inv X pins σ H s)(h:H p=some (.lst xs))(i:s.heap.get? p=some {cls:= .type "list",data:= .seq g.toArray n})(hf:f {cls:= .type "list",data:= .seq g.toArray n}={cls:= .type "list",data:= .seq its'.toArray c})(r:Vals d its')(j:d.length<=sizeLine)(t:Nat):Inv X pins σ (upd H p (.lst d)) {s with heap:=s.heap.update p f,toks:=t}:=by
 have e:(s.heap.update p f).get? p=some {cls:= .type "list",data:= .seq its'.toArray c}:=by rw[CG f i (by rw[hf]<;>rfl),hf]
 refine I.write (x:=p) (e:=p) (by rw[h];trivial) (.inl rfl) (λb u hb q=>(kT _ _ (Ne.symm hb)).trans q) ⟨_,e⟩ ?_;exact⟨j,its',c,r,e⟩
noncomputable def ads:V->V->V->Hp->(Hp->Prop)->Prop:=λo i v H Q=>∃p xs k j,o= .ref p/\i= .int k/\H p=some (.lst xs)/\V0 xs.length k=some j/\Q (upd H p (.lst (xs.set j v)))
theorem set_list:aci X ads:=by
 intro pins s σ H o i v y x u Q I ro ri w h;obtain⟨p,xs,k,j,rfl,rfl,hp,l,q⟩:=h;cases ro;obtain⟨t,rfl⟩:=ri;obtain⟨g,n,r,d,m⟩:=I.lst hp;obtain⟨h1,h2,h3,h4⟩:=JY l;have hl:=r.length;have hn:=xk;have e:Inv X pins σ (upd H p (.lst (xs.set j v))) {s with heap:=s.heap.update p (Obj.mapSeq (·.setIfInBounds j u))}:=I.YJ hp d (G7 g n j u) (r.set w j) (by rw[List.length_set];exact m) s.toks;by_cases f:0<=k
 ·have c:k.toNat=j:=by rw[seqIndex_of f h4]at h1;exact Option.some.inj h1
  exact PySem.W.ki_setAt d f (by lia) (by rw[dq,<-hl];exact h4) (by rw[c];exact⟨_,e,q⟩)
 ·have c:(k+(g.toArray.size:Int)).toNat=j:=by rw[seqIndex_neg (by lia) h3]at h1;rw[dq,<-hl];exact Option.some.inj h1
  exact PySem.W.ki_setBack d (by lia) (by rw[dq,<-hl];exact h3) (by lia) (by rw[c];exact⟨_,e,q⟩)
theorem Bc(lo hi:Option Int)(n:Nat):(sliceBounds lo hi none n).1=((HT.eF n 0 lo:Nat):Int)/\(sliceBounds lo hi none n).2.1=((HT.eF n n hi:Nat):Int)/\(sliceBounds lo hi none n).2.2=1:=by
 refine⟨?_,?_,rfl⟩
 ·cases lo with
   |none=>simp[sliceBounds,HT.eF]
   |some i=>
    simp only[sliceBounds,HT.eF,Option.getD_none,show(1:Int)>0 by decide,if_true];by_cases h:i<0;·simp only[h,if_true]<;>lia
    ·simp only[h,if_false]<;>lia
 ·cases hi with
   |none=>simp[sliceBounds,HT.eF]
   |some i=>
    simp only[sliceBounds,HT.eF,Option.getD_none,show(1:Int)>0 by decide,if_true];by_cases h:i<0;·simp only[h,if_true]<;>lia
    ·simp only[h,if_false]<;>lia
theorem zA(c:List Value)(lo hi:Option Int):slicePick c.toArray lo hi none=((c.drop (HT.eF c.length 0 lo)).take (HT.eF c.length c.length hi-HT.eF c.length 0 lo)).toArray:=by obtain⟨h1,h2,h3⟩:=Bc lo hi c.toArray.size;unfold slicePick;rw[h1,h2,h3];simp only[sliceRange_one,pick_run,dq]<;>rfl
noncomputable def afm(K:PySem.W.Frag):V->Option Int->Option Int->Hp->VK->Prop:=λx lo hi H Q=>∃a xs,x= .ref a/\bH K H a xs/\∀p,H p=none->Q (.ref p) (upd H p (.lst (iX xs lo hi)))
theorem Tz:Tc X (afm X.K):=by intro pins s σ H x v j k lo hi sl Q I g c pl f h;obtain⟨a,xs,rfl,d,q⟩:=h;cases g;obtain⟨i,r,ht,e⟩:=I.list d;have hlen:=r.length;refine⟨"list",_,slot_list_getitem.lookup,ht.isList.typeIs,?_⟩;refine wpAny_getItem_list_slice ht.isList c pl f .none (by simp) ?_ (by rw[dq]<;>lia);rw[zA,<-hlen];refine⟨.ref s.heap.objs.size,_,I.laid (t':=s.toks) (o:= .lst (iX xs lo hi)) (λb ob q=>b_ _ q) (bK _) ?_,rfl,q _ (I.b9.fresh (bK _))⟩;exact⟨c8 (qp xs lo hi) e,_,0,(r.drop (HT.eF xs.length 0 lo)).take (HT.eF xs.length xs.length hi-HT.eF xs.length 0 lo),gT _ rfl⟩
noncomputable def pX:V->Bool| .aW=>true| .bl _=>true| .int _=>true| .str _=>true|_=>false
noncomputable def VE:V->V->Bool| .aW, .aW=>true| .bl a, .bl b=>a==b| .bl a, .int b=>(if a then 1 else 0)==b| .int a, .bl b=>a==(if b then 1 else 0)| .int a, .int b=>a==b| .str a, .str b=>a==b|_,_=>false
theorem aax{A:Around}{s:Shared}{y x:V}{u v:Value}(e:RelV y u)(c:RelV x v)(f:pX y=true)(d:pX x=true):SeqAt.EqAt A s u v (VE y x):=by
 cases y with
  |aW=>cases e;cases x with|aW=>cases c;exact SeqAt.EqAt.same _|bl b=>cases c;exact SeqAt.EqAt.none_bool b|int b=>obtain⟨t,rfl⟩:=c;exact SeqAt.EqAt.none_int b t|str b=>obtain⟨t,rfl⟩:=c;exact SeqAt.EqAt.none_str b t|_=>exact absurd (show false=true from d) fQ
  |bl a=>cases e;cases x with|aW=>cases c;exact SeqAt.EqAt.bool_none a|bl b=>cases c;exact SeqAt.EqAt.bool_bool a b|int b=>obtain⟨t,rfl⟩:=c;exact SeqAt.EqAt.bool_int a b t|str b=>obtain⟨t,rfl⟩:=c;exact SeqAt.EqAt.bool_str a b t|_=>exact absurd (show false=true from d) fQ
  |int a=>obtain⟨t',rfl⟩:=e;cases x with|aW=>cases c;exact SeqAt.EqAt.int_none a t'|bl b=>cases c;exact SeqAt.EqAt.int_bool a t' b|int b=>obtain⟨t,rfl⟩:=c;exact SeqAt.EqAt.int_int a t' b t|str b=>obtain⟨t,rfl⟩:=c;exact SeqAt.EqAt.int_str a t' b t|_=>exact absurd (show false=true from d) fQ
  |str a=>obtain⟨t',rfl⟩:=e;cases x with|aW=>cases c;exact SeqAt.EqAt.str_none a t'|bl b=>cases c;exact SeqAt.EqAt.str_bool a t' b|int b=>obtain⟨t,rfl⟩:=c;exact SeqAt.EqAt.str_int a t' b t|str b=>obtain⟨t,rfl⟩:=c;exact SeqAt.EqAt.str_str a t' b t|_=>exact absurd (show false=true from d) fQ
  |_=>exact absurd (show false=true from f) fQ
noncomputable def S6(x:V)(u:Value):Bool:=match u with| .none=>VE .aW x| .bool b=>VE (.bl b) x| .int i _=>VE (.int i) x| .str z _=>VE (.str z) x|_=>false
theorem OE{x y:V}{u:Value}(r:RelV y u)(f:pX y=true):S6 x u=VE y x:=by cases y with|aW=>cases r;rfl|bl b=>cases r;rfl|int i=>obtain⟨t,rfl⟩:=r;rfl|str z=>obtain⟨t,rfl⟩:=r;rfl|_=>exact absurd (show false=true from f) fQ
theorem CV{x:V}:∀{xs:List V}{us:List Value},Vals xs us->xs.all pX=true->us.any (S6 x)=xs.any λy=>VE y x|_,_, .nil,_=>rfl|y::xs,u::us, .cons r t,f=>by rw[List.all_cons,cY]at f;rw[List.any_cons,List.any_cons,OE r f.1,CV t f.2]
theorem yd{A:Around}{s:Shared}{x:V}{v:Value}(e:RelV x v)(d:pX x=true):∀{xs:List V}{us:List Value},Vals xs us->xs.all pX=true->∀u∈us,SeqAt.EqAt A s u v (S6 x u)
 |_,_, .nil,_=>λu c=>by cases c
 |y::xs,u::us, .cons r t,f=>λg c=>by
  rw[List.all_cons,cY]at f;rcases List.mem_cons.mp c with rfl|c;·rw[OE r f.1];exact aax r e f.1 d
  ·exact yd e d t f.2 g c
noncomputable def Vu(x:V)(xs:List V):Bool:=xs.any λy=>VE y x
noncomputable def rIn(K:PySem.W.Frag)(neg:Bool):R2:=λx y H Q=>∃p xs,y= .ref p/\(bH K H p xs\/bS K H p xs)/\pX x=true/\xs.all pX=true/\Q (.bl (if neg then !Vu x xs else Vu x xs)) H
theorem iM:lj X (compareOp .In) (rIn X.K false):=by
 intro pins s σ H x y v u Q I e g h;obtain⟨p,xs,rfl,hq,d,fs,q⟩:=h;cases g;rcases hq with hq|hq;·obtain⟨c,r,pl,f⟩:=I.list hq;refine SeqAt.in_listAt (S6 x) pl.isList (λw hw=>yd e d r fs w (by simpa using hw)) ⟨.bl _,H,I,rfl,?_⟩;rw[show c.toArray.any (S6 x)=c.any (S6 x)by simp,CV r fs];exact q
 ·obtain⟨c,r,pl,f⟩:=I.tuple hq;refine SeqAt.in_tupleAt (S6 x) pl (λw hw=>yd e d r fs w (by simpa using hw)) ⟨.bl _,H,I,rfl,?_⟩;rw[show c.toArray.any (S6 x)=c.any (S6 x)by simp,CV r fs];exact q
theorem bC:iP X (.builtin "len") (λxs H Q=>∃p c,xs=[.ref p]/\(bH X.K H p c\/bS X.K H p c)/\Q (.int c.length) H):=by
 intro pins s σ H xs us Q I r h;obtain⟨p,c,rfl,hq,q⟩:=h;obtain⟨u,rfl,g⟩:=vals1 r;cases g;have hn:=xk;rcases hq with hq|hq;·obtain⟨f,d,pl,e⟩:=I.list hq;have hlen:=d.length;exact Calls.call_len_list pl.isList (by simp only[dq]<;>lia) ⟨.int c.length,H,I.tok _,⟨s.toks+1,by rw[dq,hlen]⟩,q⟩
 ·obtain⟨f,d,pl,e⟩:=I.tuple hq;have hlen:=d.length;exact len_tuple pl (by simp only[dq]<;>lia) ⟨.int c.length,H,I.tok _,⟨s.toks+1,by rw[dq,hlen]⟩,q⟩
theorem jE:iP X (.type "list") (λxs H Q=>∃p g,xs=[.ref p]/\(bH X.K H p g\/bS X.K H p g)/\∀l,H l=none->Q (.ref l) (upd H l (.lst g))):=by
 intro pins s σ H xs us Q I r h;obtain⟨p,g,rfl,hq,q⟩:=h;obtain⟨u,rfl,k⟩:=vals1 r;cases k;have fin:∀(c:List Value),Vals g c->g.length<=sizeLine->∀(h':Heap)(d:Nat),(∀b o',s.heap.get? b=some o'->h'.get? b=some o')->h'.get? s.heap.objs.size=some {cls:= .type "list",dict:=none,data:= .seq c.toArray d,slots:=#[]}->EP X pins σ Q (.ref s.heap.objs.size) {s with heap:=h'}:=λc f i h' d kp e=>⟨.ref s.heap.objs.size,_,I.laid (t':=s.toks) kp (bK _) (show cI X.prog X.w _ h' _ (.lst g)from⟨i,c,d,f,e⟩),rfl,q _ (I.b9.fresh (bK _))⟩;rcases hq with hq|hq;·obtain⟨c,f,pl,i⟩:=I.list hq;have hlen:=f.length;obtain⟨o,j,hc,n,hd⟩:=pl.isList;exact call_list_seq p (.inl rfl) j hc hd (λh' d kp e=>fin c f i h' d kp e) (by simp only[dq]<;>lia)
 ·obtain⟨c,f,pl,i⟩:=I.tuple hq;have hlen:=f.length;obtain⟨o,j,hc,n,hd⟩:=pl;exact call_list_seq p (.inr rfl) j hc hd (λh' d kp e=>fin c f i h' d kp e) (by simp only[dq]<;>lia)
theorem zw:iP X (.type "tuple") (λxs H Q=>∃p c,xs=[.ref p]/\((bH X.K H p c/\∀l,H l=none->Q (.ref l) (upd H l (.tup c)))\/(bS X.K H p c/\Q (.ref p) H))):=by
 intro pins s σ H xs us Q I r h;obtain⟨p,c,rfl,h⟩:=h;obtain⟨u,rfl,k⟩:=vals1 r;cases k;rcases h with⟨hq,q⟩|⟨hq,q⟩;·obtain⟨d,f,pl,i⟩:=I.list hq;have hlen:=f.length;refine call_tuple_list pl.isList (λh' kp=>?_) (by simp only[dq]<;>lia);have g:Inv X pins σ H {s with heap:=h'}:=I.kept (t':=s.toks) kp;have j:Inv X pins σ (upd H h'.objs.size (.tup c)) {s with heap:=h'.push {cls:= .type "tuple",data:= .seq d.toArray}}:=g.laid (t':=s.toks) (λb o e=>b_ _ e) (bK _) (show cI X.prog X.w _ _ _ (.tup c)from⟨i,d,f,IsTup.new _ _⟩);exact⟨.ref h'.objs.size,_,j,rfl,q _ (g.b9.fresh (bK _))⟩
 ·obtain⟨d,f,pl,i⟩:=I.tuple hq;exact call_tuple_same pl ⟨.ref p,H,I,rfl,q⟩
def tyV(K:PySem.W.Frag)(T:String)(x:V)(H:Hp):Prop:=match x with| .str _=>T="str"| .int _=>T="int"| .ref p=>(T="list"/\∃xs,bH K H p xs)\/(T="tuple"/\∃o,K.lookup p=some o/\o.cls= .type "tuple"/\o.dict=none)\/(T="dict"/\((∃aH,H p=some (.dK aH))\/∃aH,H p=some (.dT aH)))\/(T="set"/\∃S n,H p=some (.set S n))|_=>False
theorem QZ{pins:List (Addr×Obj)}{σ:St}{H:Hp}{s:Shared}{T:String}{x:V}{v:Value}(I:Inv X pins σ H s)(r:RelV x v)(ty:tyV X.K T x H):s.TypeIs v T/\∀a,v= .ref a->∃ob,s.heap.get? a=some ob/\ob.dict=none:=by
 cases x with
  |str z=>obtain⟨t,rfl⟩:=r;cases(show T="str"from ty);exact⟨typeIs_str s z t,λ_ e=>nomatch e⟩
  |int i=>obtain⟨t,rfl⟩:=r;cases(show T="int"from ty);exact⟨typeIs_int s i t,λ_ e=>nomatch e⟩
  |ref p=>
   cases r;rcases ty with⟨rfl,xs,hq⟩|⟨rfl,o,d,hc,hd⟩|⟨rfl,d⟩|⟨rfl,S,n,d⟩;·obtain⟨f,_,pl,_⟩:=I.list hq;refine⟨pl.isList.typeIs,λa e=>?_⟩;cases e;obtain⟨o,n,e,c,hd,_⟩:=pl;exact⟨o,e,hd⟩
   ·refine⟨⟨o,I.kI p o d,hc⟩,λa e=>?_⟩;cases e;exact⟨o,I.kI _ o d,hd⟩
   ·have z:∃o,s.heap.get? p=some o/\o.ExactDict:=by
     rcases d with⟨aH,d⟩|⟨aH,d⟩;·obtain⟨_,_,_,_,o,_,_,e,ex,_⟩:=I.b9 p _ d;exact⟨o,e,ex⟩
     ·obtain⟨_,_,_,_,o,_,_,e,ex,_⟩:=I.b9 p _ d;exact⟨o,e,ex⟩
    obtain⟨o,e,ex⟩:=z;refine⟨⟨o,e,ex.1⟩,λa e2=>?_⟩;cases e2;exact⟨o,e,ex.2.1⟩
   ·obtain⟨o,_,_,_,e,ex,_⟩:=I.b9 p _ d;refine⟨⟨o,e,ex.1⟩,λa e2=>?_⟩;cases e2;exact⟨o,e,ex.2.1⟩
  |_=>exact False.elim ty
noncomputable def aeI(K:PySem.W.Frag)(T:String)(r:V->List V->Hp->VK->Prop)(to:TE):TE:=λσ H Q=>to σ H λx c=>tyV K T x c/\r x [] c Q
noncomputable def tBM(K:PySem.W.Frag)(T:String)(r:V->List V->Hp->VK->Prop)(to:TE)(t:TA):TE:=λσ H Q=>to σ H λx c=>tyV K T x c/\t σ c λxs d=>r x xs d Q
variable{o e:Expr}{es:List Expr}{to:TE}{t:TA}{name:Str}{apos eQ:Pos}{T id:String}{r:V->List V->Hp->VK->Prop}
theorem Y0(l:PlainAttrs T)(slot:Slot T name id)(k:typeOf (.builtin id)=pure (.type "method_descriptor"))(hm:MtR X id r)(j:PE X o to)(g:attributeBase o name X.env (eval o X.env)=eval o X.env:=by rfl)(i:(apos.endLine==eQ.line)=true:=by rfl):PE X (.Call (.Attribute o name apos) [] [] eQ) (aeI X.K T r to):=by intro pins s σ H Q I h;refine wpAny_Call_method0_late g i (bX (j pins s σ H _ I h) λv s1 m=>?_);obtain⟨x,f,c,d,ty,q1⟩:=m;obtain⟨h1,h2⟩:=QZ c d ty;exact⟨T,id,l,slot,k,h1,h2,Calls.callWith_builtin rfl (PySem.evalArgs_none (hm pins s1 σ f x [] v [] Q c d .nil q1))⟩
theorem lx(w:PlainAttrs T)(slot:Slot T name id)(u:typeOf (.builtin id)=pure (.type "method_descriptor"))(hm:MtR X id r)(n:PE X o to)(ha:PA X (e::es) t)(k:attributeBase o name X.env (eval o X.env)=eval o X.env:=by rfl)(l:((backTo eQ (starEach (e::es) X.env)).all (λx=>!x.1)&&(backToKw eQ (keywordEach [] X.env)).all (λx=>x.1.isSome)&&decide ((e::es).length+([]:List Keyword).length+(if([]:List Keyword).isEmpty then 0 else 1)<30))=true:=by rfl)(m:(apos.endLine==eQ.line)=true:=by rfl)(q:starEach (e::es) X.env=(false,eval e X.env)::starEach es X.env:=by rfl)(p:(backTo eQ (starEach es X.env)).any (·.1)=false:=by rfl):PE X (.Call (.Attribute o name apos) (e::es) [] eQ) (tBM X.K T r to t):=by intro pins s σ H Q I h;refine wpAny_Call_method_late k l m rfl (bX (n pins s σ H _ I h) λv s1 z=>?_);obtain⟨x,g,c,f,ty,q1⟩:=z;obtain⟨h1,h2⟩:=QZ c f ty;refine⟨T,id,w,slot,u,h1,h2,?_⟩;have d:=ha eQ pins s1 σ g _ c q1;rw[q]at d⊢;refine Calls.callWith_builtin (by show(false||(backTo eQ (starEach es X.env)).any (·.1))=false;rw[p]<;>rfl) (Calls.evalArgs_plain ?_);exact bX d λus s2⟨vs,i,j,y,q2⟩=>hm pins s2 σ i x vs v us Q j f y q2
end
noncomputable def MtM(X:Cx)(id:String)(r:V->List V->Hp->VK->Prop):Prop:=∀(pins:List (Addr×Obj))(s:Shared)(σ:St)(H:Hp)(x:V)(xs:List V)(v:Value)(us:List Value)(Q:VK),Inv X pins σ H s->RelV x v->Vals xs us->r x xs H Q->wpAny (model X.prog X.w) X.A (call (.builtin id) (v::us)) (EP X pins σ Q) X.xe s
theorem Vals.one{x:V}{us:List Value}(h:Vals [x] us):∃u,us=[u]/\RelV x u:=by cases h with|cons r e=>cases e;exact⟨_,rfl,r⟩
theorem Vals.two{x y:V}{us:List Value}(h:Vals [x,y] us):∃u v,us=[u,v]/\RelV x u/\RelV y v:=by cases h with|cons r t=>cases t with|cons q e=>cases e;exact⟨_,_,rfl,r,q⟩
theorem Vals.zero:∀{us:List Value},Vals [] us->us=[]|_, .nil=>rfl
theorem Vals.dropLast{xs:List V}{us:List Value}(h:Vals xs us):Vals xs.dropLast us.dropLast:=by induction h with|nil=>exact .nil|cons r t a=>cases t with|nil=>exact .nil|cons q t'=>exact .cons r a
theorem FI{d:Type}(l:List d):l.eraseIdx (l.length-1)=l.dropLast:=by
 induction l with
  |nil=>rfl
  |cons a r c=>
   cases r with
    |nil=>rfl
    |cons b r=>
     have e:(a::b::r).length-1=((b::r).length-1)+1:=by have h1:(a::b::r).length=r.length+2:=rfl;have h2:(b::r).length=r.length+1:=rfl;lia
     rw[e,List.eraseIdx_cons_succ,c];all_goals rfl
section
variable{X:Cx}{pins:List (Addr×Obj)}{σ:St}{H:Hp}{s:Shared}{l b:Addr}{xs ys zs:List V}
theorem Inv.aas{a its':List Value}{n:Nat}{f:Array Value->Array Value}{t':Nat}(I:Inv X pins σ H s)(hH:H l=some (.lst xs))(e:s.heap.get? l=some {cls:= .type "list",data:= .seq a.toArray n})(hf:f a.toArray=its'.toArray)(d:Vals ys its')(g:ys.length<=sizeLine):Inv X pins σ (upd H l (.lst ys)) {s with heap:=s.heap.update l (Obj.mapSeq f),toks:=t'}:=by have q:=PySem.IsL.update e f;rw[hf]at q;refine I.write (x:=l) (e:=l) (by rw[hH];exact trivial) (.inl rfl) (λb' u hb c=>(kT s.heap (Obj.mapSeq f) (Ne.symm hb)).trans c) ⟨_,q⟩ ?_;exact⟨g,its',_,d,q⟩
theorem Inv.ack{a:List Value}{t':Nat}(I:Inv X pins σ H s)(c:Vals ys a)(d:ys.length<=sizeLine):Inv X pins σ (upd H s.heap.objs.size (.lst ys)) {s with heap:=s.heap.push {cls:= .type "list",data:= .seq a.toArray},toks:=t'}:=I.laid (λ_ _ q=>b_ _ q) (bK _) ⟨d,a,0,c,gT _ rfl⟩
theorem Inv.S9(I:Inv X pins σ H s)(hH:H l=some (.lst xs)):xs.length<=sizeLine/\∃(a:List Value)(n:Nat),Vals xs a/\xs.length=a.length/\s.heap.get? l=some {cls:= .type "list",data:= .seq a.toArray n}:=by obtain⟨z,a,n,r,e⟩:=I.b9 l _ hH;exact⟨z,a,n,r,r.length,e⟩
theorem PF{n:Nat}(h:n<=sizeLine):Builtin.List.listTooLong n=false:=by unfold Builtin.List.listTooLong;exact decide_eq_false (by lia)
end
section
variable{X:Cx}
noncomputable def Sw:V->List V->Hp->VK->Prop:=λx vs H Q=>∃l xs y,x= .ref l/\vs=[y]/\H l=some (.lst xs)/\xs.length<sizeLine/\Q .aW (upd H l (.lst (xs++[y])))
theorem fj:MtM X "list.append" Sw:=by intro pins s σ H x vs v us Q I d c h;obtain⟨l,xs,y,rfl,rfl,hH,f,q⟩:=h;cases d;obtain⟨u,rfl,b⟩:=c.one;obtain⟨z,a,n,r,hl,e⟩:=I.S9 hH;refine call_meets F.slot_list_append ⟨_,e,rfl⟩ F.entry_list_append (F.args_list_append_2 _ _) (PySem.list_append l a.toArray n u (by rw[dq];lia)) ⟨e,?_⟩;refine⟨.aW,_,I.aas (its':=a++[u]) hH e (by simp) (r.append (.cons b .nil)) ?_,rfl,q⟩;rw[iJ,EY];lia
noncomputable def S3:V->List V->Hp->VK->Prop:=λx vs H Q=>∃l b xs a,x= .ref l/\vs=[.ref b]/\H l=some (.lst xs)/\H b=some (.lst a)/\xs.length+a.length<=sizeLine/\Q .aW (upd H l (.lst (xs++a)))
theorem MZ:MtM X "list.extend" S3:=by
 intro pins s σ H x vs v us Q I m k h;obtain⟨l,b,xs,w,rfl,rfl,hH,d,p,q⟩:=h;cases m;obtain⟨u,rfl,j⟩:=k.one;cases j;obtain⟨z,a,n,r,hl,e⟩:=I.S9 hH;obtain⟨t,c,g,i,o,e2⟩:=I.S9 d;have hsz:a.toArray.size+c.toArray.size<=sizeLine:=by rw[dq,dq];lia
 have f:¬(!a.toArray.isEmpty&&Builtin.List.listTooLong (a.toArray.size+c.toArray.size))=true:=by rw[PF hsz,Bool.and_false];exact fQ
 refine call_meets F.slot_list_extend ⟨_,e,rfl⟩ F.entry_list_extend (F.args_list_extend_2 _ _) (AutoSeq1.list_extend_list_list_0 l a.toArray n b c.toArray g f (by rw[dq];lia) (by lia)) ⟨e,e2,?_⟩;refine⟨.aW,_,I.aas (its':=a++c) hH e (by simp) (r.append i) ?_,rfl,q⟩;rw[iJ];lia
noncomputable def ad3:V->List V->Hp->VK->Prop:=λx vs H Q=>∃l xs y,x= .ref l/\vs=[]/\H l=some (.lst xs)/\xs[xs.length-1]?=some y/\Q y (upd H l (.lst xs.dropLast))
theorem ZZ:MtM X "list.pop" ad3:=by
 intro pins s σ H x vs v us Q I j i h;obtain⟨l,xs,y,rfl,rfl,hH,d,q⟩:=h;cases j;have c:=i.zero;subst c;obtain⟨z,a,n,r,hl,e⟩:=I.S9 hH;obtain⟨u,b,g⟩:=r.get d;have f:a.toArray[a.toArray.size-1]?=some u:=by show a.toArray[a.length-1]?=some u;rw[<-Array.getElem?_toList,<-hl];exact b
 refine call_meets F.slot_list_pop ⟨_,e,rfl⟩ F.entry_list_pop (F.args_list_pop_1 _) (MeetsSeq.list_pop_last l a.toArray n u f (by rw[dq];lia)) ⟨e,?_⟩;refine⟨y,_,I.aas (its':=a.dropLast) hH e ?_ r.dropLast ?_,g,q⟩;·show a.toArray.eraseIdxIfInBounds (a.toArray.size-1)=a.dropLast.toArray;rw[dq,List.eraseIdxIfInBounds_toArray,FI]
 ·rw[List.length_dropLast];lia
end
section
variable{prog:Program}{w:World}{A:Around}{E:Value->Shared->Prop}{s:Shared}
end
section
variable{X:Cx}
end
section
variable{κ:Type}[DecidableEq κ]
noncomputable def fb(aH:List (κ×V))(k:κ):Option V:=(aH.find? λa=>decide (a.1=k)).map (·.2)
noncomputable def putK(aH:List (κ×V))(k:κ)(v:V):List (κ×V):=if(aH.any λa=>decide (a.1=k))=true then aH.map (λa=>if a.1=k then(a.1,v)else a)else aH++[(k,v)]
theorem fH{p:κ×V}{r:List (κ×V)}{k:κ}(e:p.1=k):fb (p::r) k=some p.2:=by simp[fb,List.find?_cons,e]
theorem fR{p:κ×V}{r:List (κ×V)}{k:κ}(e:¬p.1=k):fb (p::r) k=fb r k:=by simp[fb,List.find?_cons,e]
theorem xv(k:κ):∀aH:List (κ×V),(aH.any λa=>decide (a.1=k))=(fb aH k).isSome
 |[]=>rfl
 |p::r=>by
  rw[List.any_cons];by_cases e:p.1=k;·simp only[fH e,decide_eq_true e,Bool.true_or,Option.isSome_some]
  ·rw[fR e,decide_eq_false e,Bool.false_or];exact xv k r
theorem kl(aH:List (κ×V))(k:κ)(v:V):(putK aH k v).length<=aH.length+1:=by
 unfold putK;split;·rw[dI];lia
 ·rw[iJ,cF,e_];lia
theorem zj.iA{o:Option V}{u:Option Value}(r:zj o u):o.isSome=u.isSome:=by
 cases o with
  |none=>cases u with|none=>rfl|some _=>exact(show False from r).elim
  |some _=>cases u with|none=>exact(show False from r).elim|some _=>rfl
theorem KV.val{aH:List (κ×V)}{vs:List (κ×Value)}(r:KV aH vs)(k:κ):zj (fb aH k) (valueAt vs k):=by
 unfold KV at r;induction r with
  |nil=>exact True.intro
  |@cons p q ps a h t c=>
   obtain⟨h1,h2⟩:=h;by_cases e:p.1=k
   ·have e':q.1=k:=h1.symm.trans e;have b:valueAt (q::a) k=some q.2:=by simp[valueAt,List.find?_cons,e']
    rw[fH e,b];exact h2
   ·have e':¬q.1=k:=λz=>e (h1.trans z);have b:valueAt (q::a) k=valueAt a k:=by simp[valueAt,List.find?_cons,e']
    rw[fR e,b];exact c
theorem KV.any{aH:List (κ×V)}{vs:List (κ×Value)}(r:KV aH vs)(k:κ):(aH.any λa=>decide (a.1=k))=vs.any λa=>decide (a.1=k):=by unfold KV at r;induction r with|nil=>rfl|cons h t b=>rw[List.any_cons,List.any_cons,b,h.1]
theorem KV.YT{aH:List (κ×V)}{vs:List (κ×Value)}(r:KV aH vs)(k:κ){y:V}{u:Value}(c:RelV y u):KV (aH.map λa=>if a.1=k then(a.1,y)else a) (vs.map λa=>if a.1=k then(a.1,u)else a):=by
 unfold KV at r⊢;induction r with
  |nil=>exact .nil
  |@cons p q ps d h t b=>
   rw[d7,d7];refine .cons ?_ b;obtain⟨h1,h2⟩:=h;by_cases e:p.1=k;·rw[if_pos e,if_pos (h1.symm.trans e)];exact⟨h1,c⟩
   ·rw[if_neg e,if_neg (λz=>e (h1.trans z))];exact⟨h1,h2⟩
theorem KV.put{aH:List (κ×V)}{vs:List (κ×Value)}(r:KV aH vs)(k:κ){y:V}{u:Value}(a:RelV y u):KV (putK aH k y) (stored vs k u):=by
 unfold putK stored;rw[r.any k];by_cases e:(vs.any λb=>decide (b.1=k))=true;·rw[if_pos e,if_pos e];exact r.YT k a
 ·rw[if_neg e,if_neg e];exact Paired.snoc r ⟨rfl,a⟩
theorem KV.length{aH:List (κ×V)}{vs:List (κ×Value)}(r:KV aH vs):aH.length=vs.length:=Paired.length r
end
theorem AG{P:Program}{w:World}{k:Key}{u:Value}(r:RelV (kV k) u):(cU P w).is k u=true:=by cases k with|inl i=>obtain⟨t,e⟩:=(show∃t,u=Value.int i t from r);subst e;exact E9 P w i t|inr x=>obtain⟨t,e⟩:=(show∃t,u=Value.str x t from r);subst e;exact EF P w x t
theorem zV{P:Program}{w:World}:∀{a:List Key}{us:List Value},Vals (a.map kV) us->ItemsAre (cU P w) a us|[],_,r=>by rw[List.map_nil]at r;cases r;exact .nil|k::a,_,r=>by rw[d7]at r;cases r with|cons h t=>exact .cons (AG h) (zV t)
noncomputable abbrev KT(H:Hp):List (List Key×V)->List (List Key×Addr×Value)->Prop:=Paired λp q=>p.1=q.1/\H q.2.1=some (.tup (p.1.map kV))/\RelV p.2 q.2.2
theorem KT.val{H:Hp}{aH:List (List Key×V)}{xs:List (List Key×Addr×Value)}(r:KT H aH xs)(k:List Key):zj (fb aH k) ((atKey xs k).map (·.2)):=by
 induction r with
  |nil=>exact True.intro
  |@cons p q ps a h t c=>
   obtain⟨h1,_,h2⟩:=h;by_cases e:p.1=k
   ·have e':q.1=k:=h1.symm.trans e;have b:atKey (q::a) k=some q.2:=by simp[atKey,List.find?_cons,e']
    rw[fH e,b];exact h2
   ·have e':¬q.1=k:=λz=>e (h1.trans z);have b:atKey (q::a) k=atKey a k:=by simp[atKey,List.find?_cons,e']
    rw[fR e,b];exact c
theorem KT.YT{H:Hp}{aH:List (List Key×V)}{xs:List (List Key×Addr×Value)}(r:KT H aH xs)(k:List Key){y:V}{u:Value}(c:RelV y u):KT H (aH.map λa=>if a.1=k then(a.1,y)else a) (xs.map (putAt k u)):=by
 induction r with
  |nil=>exact .nil
  |@cons p q ps d h t b=>
   rw[d7,d7];refine .cons ?_ b;obtain⟨h1,h2,h3⟩:=h;unfold putAt;by_cases e:p.1=k;·rw[if_pos e,if_pos (h1.symm.trans e)];exact⟨h1,h2,c⟩
   ·rw[if_neg e,if_neg (λz=>e (h1.trans z))];exact⟨h1,h2,h3⟩
theorem KT.put{H:Hp}{aH:List (List Key×V)}{xs:List (List Key×Addr×Value)}(r:KT H aH xs)(k:List Key){b:Addr}{y:V}{u:Value}(hb:H b=some (.tup (k.map kV)))(a:RelV y u):KT H (putK aH k y) (storedH xs k b u):=by
 have e:(aH.any λc=>decide (c.1=k))=(atKey xs k).isSome:=by rw[xv,(r.val k).iA,Option.isSome_map]
 unfold putK storedH;rw[e];by_cases q:(atKey xs k).isSome=true;·rw[if_pos q,if_pos q];exact r.YT k a
 ·rw[if_neg q,if_neg q];exact Paired.snoc r ⟨rfl,hb,a⟩
theorem KT.keeps{H H':Hp}{aH:List (List Key×V)}{xs:List (List Key×Addr×Value)}(r:KT H aH xs)(ht:∀b a,H b=some (.tup a)->H' b=some (.tup a)):KT H' aH xs:=Paired.ZY r λ_ _ z=>⟨z.1,ht _ _ z.2.1,z.2.2⟩
section
variable{P:Program}{w:World}{H:Hp}{h:Heap}{a:Addr}
theorem Vn{u:HO}(ok:jN P w H h)(e:Rd H a u):cI P w H h a u:=e.ok ok
theorem DF{aH:List (Key×V)}(ok:jN P w H h)(e:Rd H a (.dK aH)):aH.length<=sizeLine/\(a==sysModules)=false/\∃vs,KV aH vs/\h.DictOf (cU P w) a vs:=show cI P w H h a (.dK aH)from Vn ok e
theorem Fb{aH:List (Key×V)}(ok:jN P w H h)(e:H a=some (.dK aH)):aH.length<=sizeLine/\(a==sysModules)=false/\∃vs,KV aH vs/\h.DictOf (cU P w) a vs:=DF ok (.inl e)
theorem xG{b:List Key}(ok:jN P w H h)(e:H a=some (.tup (b.map kV))):(tupleKind (cU P w)).is h b a:=by obtain⟨_,c,r,o,h1,h2,n,h3⟩:=(show cI P w H h a (.tup (b.map kV))from ok a _ e);exact⟨o,c.toArray,n,h1,h2,h3,by simpa using zV r⟩
theorem Fp{aH:List (List Key×V)}(ok:jN P w H h)(e:Rd H a (.dT aH)):aH.length<=sizeLine/\(a==sysModules)=false/\∃xs,KT H aH xs/\h.DictOfH (tupleKind (cU P w)) a xs:=by
 obtain⟨z,y,xs,r,o,es,ep,h1,h2,h3,h4,h5⟩:=(show cI P w H h a (.dT aH)from Vn ok e);refine⟨z,y,xs,r,o,es,ep,h1,h2,h3,h4,λx b=>?_,h5⟩;have all:∀{l:List (List Key×V)}{m:List (List Key×Addr×Value)},KT H l m->∀x∈m,(tupleKind (cU P w)).is h x.1 x.2.1:=by
  intro l m q;induction q with
   |nil=>intro x b;exact nomatch b
   |@cons p q ps d hq t c=>
    intro x b;rcases List.mem_cons.mp b with e|b;·subst e;exact xG ok (by rw[<-hq.1];exact hq.2.1)
    ·exact c x b
 exact all r x b
theorem abB{aH:List (List Key×V)}(ok:jN P w H h)(e:H a=some (.dT aH)):aH.length<=sizeLine/\(a==sysModules)=false/\∃xs,KT H aH xs/\h.DictOfH (tupleKind (cU P w)) a xs:=Fp ok (.inl e)
end
noncomputable def lG(H:Hp)(a:Addr)(y:V)(r:Option V):Prop:=(∃aH k,Rd H a (.dK aH)/\y=kV k/\r=fb aH k)\/∃aH k b,Rd H a (.dT aH)/\y= .ref b/\H b=some (.tup (k.map kV))/\r=fb aH k
noncomputable def FW(H:Hp)(a:Addr)(y v:V)(H':Hp):Prop:=(∃aH k,H a=some (.dK aH)/\y=kV k/\aH.length<sizeLine/\H'=upd H a (.dK (putK aH k v)))\/∃aH k b,H a=some (.dT aH)/\y= .ref b/\H b=some (.tup (k.map kV))/\aH.length<sizeLine/\H'=upd H a (.dT (putK aH k v))
theorem lG.k{H:Hp}{a:Addr}{aH:List (Key×V)}{k:Key}(e:H a=some (.dK aH)):lG H a (kV k) (fb aH k):= .inl ⟨aH,k, .inl e,rfl,rfl⟩
theorem FW.k{H:Hp}{a:Addr}{aH:List (Key×V)}{k:Key}{v:V}(e:H a=some (.dK aH))(hl:aH.length<sizeLine):FW H a (kV k) v (upd H a (.dK (putK aH k v))):= .inl ⟨aH,k,e,rfl,hl,rfl⟩
section
variable{X:Cx}{pins:List (Addr×Obj)}{σ:St}{H:Hp}{s:Shared}{a:Addr}{y v:V}{u r:Value}{o:Option V}{A:Around}{E:Value->Shared->Prop}
theorem Inv.big(I:Inv X pins σ H s):sysModules<s.heap.objs.size:=by have h:mainGlobals<s.heap.objs.size:=(I.mod.glob.keeps I.bk).lt;exact Nat.lt_trans (by decide) h
theorem MY{Q:Value->Shared->Prop}(q:A.units+1<cLine)(I:Inv X pins σ H s)(g:lG H a y (some v))(j:RelV y u)(h:∀c s',Inv X pins σ H s'->RelV v c->Q c s'):wpAny (model X.prog X.w) A (getItem (.ref a) u) Q E s:=by
 rcases g with⟨aH,k,e,f,l⟩|⟨aH,k,b,e,f,m,l⟩;·subst f;obtain⟨z,hd,vs,rel,d⟩:=DF I.b9 e;obtain⟨c,hw,i⟩:=zj.some_of (v:=v) (o:=valueAt vs k) (by rw[l];exact rel.val k);exact wpAny_getItem_of (AG j) d.mapOf hw (h c _ (I.tok _) i)
 ·subst f;cases(show u=Value.ref b from j);obtain⟨z,hd,xs,rel,d⟩:=Fp I.b9 e;obtain⟨c,hw,i⟩:=zj.some_of (v:=v) (o:=(atKey xs k).map (·.2)) (by rw[l];exact rel.val k);obtain⟨p,hp,n⟩:=Option.map_eq_some_iff.mp hw;refine wpAny_getItem_heap (tupleKind_room_in1 q) (xG I.b9 m) d hp ?_;rw[n];exact h c _ (I.tok _) i
theorem aec{Q:Value->Shared->Prop}(j:A.units+1<cLine)(I:Inv X pins σ H s)(g:lG H a y o)(f:RelV y u)(h:∀s',Inv X pins σ H s'->Q (.bool o.isSome) s'):wpAny (model X.prog X.w) A (compareOp .In u (.ref a)) Q E s:=by
 rcases g with⟨aH,k,e,d,l⟩|⟨aH,k,b,e,d,i,l⟩;·subst d;obtain⟨z,hd,vs,rel,c⟩:=DF I.b9 e;refine wpAny_in_of (AG f) hd c.mapOf ?_;rw[<-(rel.val k).iA,<-l];exact h _ (I.tok _)
 ·subst d;cases(show u=Value.ref b from f);obtain⟨z,hd,xs,rel,c⟩:=Fp I.b9 e;refine wpAny_in_heap (tupleKind_room_in1 j) (xG I.b9 i) hd c ?_;have q:=(rel.val k).iA;rw[Option.isSome_map]at q;rw[<-q,<-l];exact h _ (I.tok _)
theorem Tq{Q:Value->Shared->Prop}(j:A.units+1<cLine)(I:Inv X pins σ H s)(g:lG H a y o)(f:RelV y u)(h:∀s',Inv X pins σ H s'->Q (.bool (!o.isSome)) s'):wpAny (model X.prog X.w) A (compareOp .NotIn u (.ref a)) Q E s:=by
 rcases g with⟨aH,k,e,d,l⟩|⟨aH,k,b,e,d,i,l⟩;·subst d;obtain⟨z,hd,vs,rel,c⟩:=DF I.b9 e;refine wpAny_notIn_of (AG f) hd c.mapOf ?_;rw[<-(rel.val k).iA,<-l];exact h _ (I.tok _)
 ·subst d;cases(show u=Value.ref b from f);obtain⟨z,hd,xs,rel,c⟩:=Fp I.b9 e;refine wpAny_notIn_heap (tupleKind_room_in1 j) (xG I.b9 i) hd c ?_;have q:=(rel.val k).iA;rw[Option.isSome_map]at q;rw[<-q,<-l];exact h _ (I.tok _)
theorem A5{h':Heap}{t':Nat}{ob:HO}(I:Inv X pins σ H s)(f:Mut (H a))(d:Heap.SameBut a s.heap h')(c:∃q,h'.get? a=some q)(new:cI X.prog X.w (upd H a ob) h' a ob):Inv X pins σ (upd H a ob) {s with heap:=h',toks:=t'}:=I.write (x:=a) (e:=a) f (.inl rfl) (λb q hb z=>(d.2 b hb).trans z) c new
theorem FP{P:Program}{w:World}{H':Hp}{h':Heap}{aH:List (Key×V)}{vs:List (Key×Value)}(z:aH.length<=sizeLine)(hd:(a==sysModules)=false)(rel:KV aH vs)(b:h'.DictOf (cU P w) a vs):cI P w H' h' a (.dK aH):=⟨z,hd,vs,rel,b⟩
theorem LM{H':Hp}{Q:Unit->Shared->Prop}(C:A.units+1<cLine)(I:Inv X pins σ H s)(g:FW H a y v H')(x:RelV y u)(w:RelV v r)(h:∀s',Inv X pins σ H' s'->Q () s'):wpAny (model X.prog X.w) A (setItem (.ref a) u r) Q E s:=by
 rcases g with⟨aH,k,e,j,l,i⟩|⟨aH,k,b,e,j,p,l,i⟩
 ·subst j i;obtain⟨z,hd,vs,rel,f⟩:=Fb I.b9 e;have n:vs.length<=sizeLine:=by rw[<-rel.length];exact z
  have hl:(putK aH k v).length<=sizeLine:=by have :=kl aH k v;lia
  refine wpAny_setItem_pairs (hsz:=n) (AG x) f λh' d m=>h _ ?_;have B:∃q,h'.get? a=some q:=let⟨q,_,_,hq,_⟩:=d;⟨q,hq⟩;exact A5 I (by rw[e];exact True.intro) m B (FP hl hd (rel.put k w) d)
 ·subst j i;cases(show u=Value.ref b from x);obtain⟨z,hd,xs,rel,f⟩:=abB I.b9 e;have n:xs.length<=sizeLine:=by rw[<-Paired.length rel];exact z
  have hl:(putK aH k v).length<=sizeLine:=by have :=kl aH k v;lia
  refine wpAny_setItem_heap (hsz:=n) (tupleKind_room_in1 C) (xG I.b9 p) f λh' d m=>h _ ?_;obtain⟨q,es,ep,hq,h2,h3,h4,_,h5⟩:=d;refine A5 I (by rw[e];exact True.intro) m ⟨q,hq⟩ ⟨hl,hd,_,(rel.put k p w).keeps λc D t=>?_,q,es,ep,hq,h2,h3,h4,h5⟩;rw[aZ (U8 t e (λz=>nomatch z))];exact t
end
section
variable{X:Cx}{pins:List (Addr×Obj)}{σ:St}{H:Hp}{s:Shared}{a:Addr}{aH:List (Key×V)}{k:Key}{u:Value}{A:Around}{E:Value->Shared->Prop}
end
def Z6(i:Expr):Prop:=∀b a,subscripted i false b a=operate [b,a] (getItem b a)
theorem Jq{prog:Program}{w:World}{A:Around}{E:Value->Shared->Prop}{s:Shared}{env:Env}{value slice:Expr}{j:Pos}{T id:String}{Q:Value->Shared->Prop}(hl:typeLookup (.type T) "__getitem__"=pure (some (.builtin id)))(f:Z6 slice)(h:wpAny (model prog w) A (eval value env) (λo d=>wpAny (model prog w) A (eval slice env) (λi a=>a.TypeIs o T/\wpAny (model prog w) A (getItem o i) Q E a) E d) E s):wpAny (model prog w) A (eval (.Subscript value slice j) env) Q E s:=by
 refine Subscript_ (gm h (λo d h₁=>gm h₁ (λi a b=>?_) λ_ _ x=>x) λ_ _ x=>x);obtain⟨c,b⟩:=b;unfold subscriptTail;refine aA ?_;rw[getitemInPython_of_ne c.not_modules];refine aA (wpAny_specialOf c hl ?_);have fin:wpAny (model prog w) A (subscripted slice false o i) (λr e=>wpAny (model prog w) A (letTemporaryGo value o r>>=λ_=>pure r) Q E e) E a:=by rw[f o i];exact wpAny_operating (gm b (λr e g=>aA (wpAny_letTemporaryGo (bB g))) λ_ _ x=>x)
 first|exact bB (aA fin)|exact aA (bB (aA fin))|exact aA fin
theorem Dz{X:Cx}{pins:List (Addr×Obj)}{σ:St}{H:Hp}{s:Shared}{a:Addr}{y:V}{o:Option V}(I:Inv X pins σ H s)(g:lG H a y o):s.TypeIs (.ref a) "dict":=by
 rcases g with⟨aH,k,e,_,_⟩|⟨aH,k,b,e,_,_,_⟩;·obtain⟨_,_,vs,_,c⟩:=DF I.b9 e;exact c.typeIs
 ·obtain⟨_,_,xs,_,c⟩:=Fp I.b9 e;exact c.typeIs
noncomputable def abd(td ty:TE):TE:=λσ H Q=>td σ H λx c=>ty σ c λy b=>∃a v,x= .ref a/\lG b a y (some v)/\Q v b
noncomputable def ad7(ty td:TE):TE:=λσ H Q=>ty σ H λy c=>td σ c λx b=>∃a o,x= .ref a/\lG b a y o/\Q (.bl o.isSome) b
noncomputable def UQ(ty td:TE):TE:=λσ H Q=>ty σ H λy c=>td σ c λx b=>∃a o,x= .ref a/\lG b a y o/\Q (.bl (!o.isSome)) b
noncomputable def abM(td ty f:TE):TS:=λD σ H=>f σ H λv c=>td σ c λx d=>ty σ d λy e=>∃a b,x= .ref a/\FW e a y v b/\D.nx σ b
section
variable{X:Cx}{o i e value:Expr}{pos pos' QA:Pos}{td ty tv:TE}
theorem xf(m:X.A.units+1<cLine)(k:PE X o td)(hi:PE X i ty)(l:Z6 i):PE X (.Subscript o i pos) (abd td ty):=by intro pins s σ H Q I h;refine Jq PySem.F.slot_dict_getitem.lookup l (bX (k pins s σ H _ I h) λu s1⟨x,c,f,p,q1⟩=>bX (hi pins s1 σ c _ f q1) λt s2 r=>?_);obtain⟨y,d,b,q,a,v,ex,g,q2⟩:=r;subst ex;obtain rfl:u=Value.ref a:=p;exact⟨Dz b g,MY m b g q λz w j n=>⟨v,d,j,n,q2⟩⟩
theorem RI(l:X.A.units+1<cLine)(hi:PE X i ty)(k:PE X o td):PC X .In i o (ad7 ty td):=by intro pins s σ H Q I h;refine bX (hi pins s σ H _ I h) λr s1⟨y,b,d,p,q1⟩=>bX (k pins s1 σ b _ d q1) λu s2 q=>?_;obtain⟨x,c,f,n,a,m,ex,g,q2⟩:=q;subst ex;obtain rfl:u=Value.ref a:=n;exact aec l f g p λt j=>⟨.bl m.isSome,c,j,rfl,q2⟩
theorem MB(l:X.A.units+1<cLine)(hi:PE X i ty)(k:PE X o td):PC X .NotIn i o (UQ ty td):=by intro pins s σ H Q I h;refine bX (hi pins s σ H _ I h) λr s1⟨y,b,d,p,q1⟩=>bX (k pins s1 σ b _ d q1) λu s2 q=>?_;obtain⟨x,c,f,n,a,m,ex,g,q2⟩:=q;subst ex;obtain rfl:u=Value.ref a:=n;exact Tq l f g p λt j=>⟨.bl (!m.isSome),c,j,rfl,q2⟩
theorem Cu(p:X.A.units+1<cLine)(m:PE X o td)(hi:PE X i ty)(q:PE X value tv)(n:swapsWith value (some (.Subscript o i pos')) pos.line X.env=pure false):PS X (.Assign [.Subscript o i pos'] value pos) (abM td ty tv):=by intro pins s σ H D I h;refine wpAny_Assign_Subscript (bX (q pins s σ H _ I h) λr s1⟨v,b,f,t,q1⟩=>bX (m pins s1 σ b _ f q1) λu s2⟨x,c,j,w,q2⟩=>bX (hi pins s2 σ c _ j q2) λC E A=>?_) n;obtain⟨y,B,k,z,a,d,ex,g,q3⟩:=A;subst ex;obtain rfl:u=Value.ref a:=w;exact LM p k g z t λF l=>⟨σ,d,l,q3⟩
end
theorem EK{P:Program}{w:World}{H:Hp}(h:Heap)(hb:sysModules<h.objs.size):cI P w H (h.push {cls:= .type "dict",data:= .dict #[]}) h.objs.size (.dK []):=⟨eB _,beq_eq_false_iff_ne.mpr (Ne.symm (eg hb)),[], .nil,Heap.DictOf.new h⟩
noncomputable def Y1:TE:=λ_ H Q=>∀p,H p=none->Q (.ref p) (upd H p (.dK []))
section
variable{X:Cx}{pos:Pos}
theorem N5:PE X (.Dict [] [] pos) Y1:=λpins s σ H Q I h=>wpAny_Dict_empty ⟨.ref s.heap.objs.size,_,I.laid (a:=s.heap.objs.size) (o:= .dK []) (t':=s.toks) (λ_ _ q=>b_ _ q) (bK _) (EK s.heap I.big),rfl,h _ (I.b9.fresh (bK _))⟩
end
noncomputable def F9:List (TE×TE)->St->Hp->(List (V×V)->Hp->Prop)->Prop|[],_,H,Q=>Q [] H|(tk,d)::r,σ,H,Q=>tk σ H λx a=>d σ a λy b=>F9 r σ b λps c=>Q ((x,y)::ps) c
noncomputable abbrev VV:List (V×V)->List (Value×Value)->Prop:=Paired λp q=>RelV p.1 q.1/\RelV p.2 q.2
noncomputable def An(X:Cx)(a:Pos)(keys:List (Option Expr))(values:List Expr)(b:List (TE×TE)):Prop:=∀(pins:List (Addr×Obj))(s:Shared)(σ:St)(H:Hp)(Q:List (V×V)->Hp->Prop),Inv X pins σ H s->F9 b σ H Q->wpAny (model X.prog X.w) X.A (evalPairs (pairTrees keys values X.env a)) (λvs s'=>∃ps H',Inv X pins σ H' s'/\VV ps vs/\Q ps H') X.xe s
theorem Ku{X:Cx}{a:Pos}:An X a [] [] []:=λpins s σ H Q I h=>pairTrees_nil_walk ⟨[],H,I, .nil,h⟩
theorem fL{X:Cx}{b:Pos}{k v:Expr}{a:List (Option Expr)}{vs:List Expr}{tk d:TE}{c:List (TE×TE)}(m:PE X k tk)(o:PE X v d)(n:An X b a vs c):An X b (some k::a) (v::vs) ((tk,d)::c):=λpins s σ H Q I h=>pairTrees_cons_walk (bX (m pins s σ H _ I h) λu s1⟨x,e,i,p,q1⟩=>bX (o pins s1 σ e _ i q1) λt s2⟨y,f,j,q,q2⟩=>bX (n pins s2 σ f _ j q2) λws r⟨ps,g,l,rel,q3⟩=>⟨(x,y)::ps,g,l, .cons ⟨p,q⟩ rel,q3⟩)
noncomputable def oK(aH more:List (Key×V)):List (Key×V):=more.foldl (λb a=>putK b a.1 a.2) aH
theorem KV.merge:∀{more:List (Key×V)}{rs:List (Key×Value)}{aH:List (Key×V)}{vs:List (Key×Value)},KV more rs->KV aH vs->KV (oK aH more) (merged vs rs):=by
 intro more rs aH vs r;unfold KV at r;induction r generalizing aH vs with
  |nil=>intro q;exact q
  |@cons p q ps b h t a=>
   intro r0;have e:KV (putK aH p.1 p.2) (stored vs q.1 q.2):=by have :=r0.put p.1 h.2;rw[<-h.1];exact this
   exact a e
theorem k_:∀(more aH:List (Key×V)),(oK aH more).length<=aH.length+more.length|[],aH=>by show aH.length<=aH.length+0;lia|p::r,aH=>by have h1:=k_ r (putK aH p.1 p.2);have h2:=kl aH p.1 p.2;show(oK (putK aH p.1 p.2) r).length<=_;rw[cF];lia
theorem zd{P:Program}{w:World}:∀{aH:List (Key×V)}{ws:List (Value×Value)},VV (aH.map λd=>(kV d.1,d.2)) ws->∃rs,Carries (cU P w) ws rs/\KV aH rs|[],_,r=>by rw[List.map_nil]at r;cases r;exact⟨[],True.intro, .nil⟩|p::aH,_,r=>by rw[d7]at r;cases r with|@cons a b as bs h t=>obtain⟨rs,c,q⟩:=zd (P:=P) (w:=w) t;obtain⟨b1,b2⟩:=b;exact⟨(p.1,b2)::rs,⟨AG h.1,rfl,c⟩, .cons ⟨rfl,h.2⟩ q⟩
noncomputable def ab4(c:List (TE×TE)):TE:=λσ H Q=>∀p,H p=none->F9 c σ (upd H p (.dK [])) λps a=>a p=some (.dK [])/\∃aH:List (Key×V),ps=aH.map (λb=>(kV b.1,b.2))/\aH.length<=15/\Q (.ref p) (upd a p (.dK (oK [] aH)))
theorem Io{X:Cx}{f:Pos}{keys:List (Option Expr)}{values:List Expr}{g:List (TE×TE)}(h:An X f keys values g)(m:keys.all (·.isSome)=true)(hl:keys.length=values.length)(k:keys≠[])(l:keys.length<=15):PE X (.Dict keys values f) (ab4 g):=by
 intro pins s σ H Q I q;have hn:=I.b9.fresh (bK s.heap.objs.size);have i:=I.laid (a:=s.heap.objs.size) (o:= .dK []) (h':=s.heap.push {cls:= .type "dict",data:= .dict #[]}) (t':=s.toks) (λ_ _ q=>b_ _ q) (bK _) (EK s.heap I.big);refine wpAny_Dict_walk (knd:=cU X.prog X.w) m hl k l (bX (h pins _ σ _ _ i (q _ hn)) λws s2 u=>?_);obtain⟨ps,v,b,rel,e,aH,ep,x,q2⟩:=u;subst ep;obtain⟨rs,c,t⟩:=zd (P:=X.prog) (w:=X.w) rel;obtain⟨z,hd,y,r0,j⟩:=Fb b.b9 e;cases r0;refine⟨rs,c,j,λh' d p=>⟨.ref s.heap.objs.size,_,?_,rfl,q2⟩⟩;have r:(oK [] aH).length<=sizeLine:=by have h1:=k_ aH [];rw[e_]at h1;rw[sizeLine_eq];lia
 have n:∃q,h'.get? s.heap.objs.size=some q:=let⟨q,_,_,hq,_⟩:=d;⟨q,hq⟩;exact A5 b (by rw[e];exact True.intro) p n (FP r hd (t.merge .nil) d)
structure M1(X:Cx)(o:Expr)(m:Str)(apos:Pos)(e:Expr)(eQ:Pos):Prop where
 base:attributeBase o m X.env (eval o X.env)=eval o X.env
 few:((backTo eQ (starEach [e] X.env)).all (λx=>!x.1)&&(backToKw eQ (keywordEach [] X.env)).all (λx=>x.1.isSome)&&decide (([e]:List Expr).length+([]:List Keyword).length+(if([]:List Keyword).isEmpty then 0 else 1)<30))=true
 line:(apos.endLine==eQ.line)=true
 trees:backTo eQ (starEach [e] X.env)=[(false,eval e X.env)]
structure M2(X:Cx)(o:Expr)(m:Str)(apos:Pos)(e f:Expr)(eQ:Pos):Prop where
 base:attributeBase o m X.env (eval o X.env)=eval o X.env
 few:((backTo eQ (starEach [e,f] X.env)).all (λx=>!x.1)&&(backToKw eQ (keywordEach [] X.env)).all (λx=>x.1.isSome)&&decide (([e,f]:List Expr).length+([]:List Keyword).length+(if([]:List Keyword).isEmpty then 0 else 1)<30))=true
 line:(apos.endLine==eQ.line)=true
 trees:backTo eQ (starEach [e,f] X.env)=[(false,eval e X.env),(false,eval f X.env)]
section
variable{X:Cx}{pins:List (Addr×Obj)}{σ:St}{H:Hp}{s:Shared}{a:Addr}{y d:V}{u r:Value}{o:Option V}{A:Around}{E:Value->Shared->Prop}
end
section
variable{X:Cx}{o e f:Expr}{apos eQ:Pos}{td ty tx:TE}
end
section
variable{X:Cx}{pins:List (Addr×Obj)}{σ:St}{H:Hp}{s:Shared}{a:Addr}{aH:List (Key×V)}{A:Around}{E:Value->Shared->Prop}
end
section
variable{X:Cx}{pins:List (Addr×Obj)}{σ:St}{H:Hp}{s:Shared}{a:Addr}{y:V}{u:Value}{A:Around}{E:Value->Shared->Prop}
end
end L2
end
section
namespace Att
open PySem PySem.W PySem.Calls PyProof.Rows
theorem qV{P:Params}{h:Heap}:∀(ns:List Int)(vs:List Value),WellAll P h vs (ns.map WData.int)->IntsAre vs ns:=by intro ns;induction ns with|nil=>intro vs w;rw[List.map_nil]at w;cases w;exact .nil|cons n ns c=>intro vs w;rw[d7]at w;cases w with|cons a b=>cases a;exact .cons _ _ (c _ b)
theorem MT{l:OpenLaw}{n:Nat}(hn:l.most=some n){P:Params}{h:Heap}{args:List WData}{vals:List Value}(b:l.row.toRowW.claim.pre args=true)(g:WellAll P h vals args):∃a vs ns,vals=[Value.ref a]/\args=[WData.list (ns.map WData.int)]/\h.get? a=some {cls:= .type "list",data:= .seq vs.toArray}/\IntsAre vs ns/\ns.length<=n:=by
 have f:WShape.hasAll [] args [.list .int]=true:=(pre_splitW b).1;have hc:l.pre.holds [] {args:=args}=true:=(pre_splitW b).2;obtain⟨d,r,rfl,h1,h2⟩:=hasAllW_cons f;obtain rfl:=hasAllW_nil h2;obtain⟨xs,rfl,h3⟩:=hasW_list h1;obtain⟨ns,rfl⟩:=items_int h3;have hlen:ns.length<=n:=by
  unfold OpenLaw.pre at hc;have h4:(WTm.not (.lt (.lit (.int (n:Int))) (.len (.arg 0)))).holds [] {args:=[.list (ns.map .int)]}=true:=by have h4:=(holds_andW hc).1;rw[hn]at h4;exact h4
  have h5:=condW_of h4 (w_not (w_lt w_lit (w_len_list (w_arg rfl))));rw[dI]at h5;refine Nat.le_of_not_lt λq=>?_;have i:(n:Int)<((ns.length:Nat):Int):=by lia
  first|(rw[decide_eq_true i]at h5;exact absurd h5 (by decide))|(simp at h5;lia)
 cases g with|cons w1 j=>cases j;cases w1 with|list e c=>exact⟨_,_,ns,rfl,rfl,e,qV ns _ c,hlen⟩
theorem MA(l:OpenLaw)(args:List WData):l.row.toRowW.claim.post args (.bool true) args=true:=postW_of (r:=l.row.toRowW) (X:=(true==true)) (show WShape.has [] (.bool true) .bool=true by first|rfl|decide|simp[WShape.has,WShape.arms,WShape.armsAll]) (show(WTm.eq .res (.lit (.bool true))).value [] {args:=args,res:=some (.bool true),after:=args}=some (.bool (true==true))from w_eq_bool (w_res rfl) w_lit) rfl
theorem Fh{l:OpenLaw}{n:Nat}{q:Program}{loose:List Str}{XP:(Str->Option Value)->Heap->Prop}{YP:World->Heap->Prop}{d:DefRec}(hn:l.most=some n)(h:d.params.defaults=[])(call:∀(w:World)(cC b:Shared)(mg mb:Str->Option Value)(fa:Addr)(o:Obj)(pm cd doc:Value)(a:Addr)(vs:List Value)(ns:List Int),Ground q loose [] XP w cC mg mb b.heap->YP w b.heap->b.heap.get? fa=some o->o.data= .func (docDef d.name d.params d.body d.scope pm cd doc)->b.heap.CodeRec cd d.name->mg d.name=some (.ref fa)->b.heap.get? a=some {cls:= .type "list",data:= .seq vs.toArray}->IntsAre vs ns->ns.length<=n->b.gens=#[]->codeAny (model l.prog w) callerA (.call (.ref fa) ⟨[.ref a],[]⟩) (λr s'=>r= .ok (.ret (.bool true))/\OldK b.heap s'.heap/\s'.os=b.os/\AllBare s'.gens) b):WalkO q loose XP YP l.row.toRowW d [] (λf vs=>PySem.call f vs):=by intro w cC b mg mb G Y fa o pm cd doc e kV j hd g c hmg i args vals as m s u p t;obtain rfl:e= .none:=Dflts.none c h;obtain rfl:kV= .none:=Dflts.noKw c;obtain⟨a,vs,ns,rfl,rfl,k,hints,hlen⟩:=MT hn m p;refine enter_call (codeAny_mono (call w cC b mg mb fa o pm cd doc a vs ns G Y j (fd_plain hd) g hmg k hints hlen i) λr s' hq=>?_);obtain⟨rfl,h2,h3,h4⟩:=hq;exact⟨.inl ⟨.bool true, .bool true,[],rfl,λ_=>rfl, .bool true,MA l _,λ_=>⟨List.Pairwise.nil,λ_ hm=>(nomatch hm)⟩⟩,h2,h3,h4⟩
section
variable{prog:Program}{w:World}{A:Around}{E:Value->Shared->Prop}{s:Shared}{K:Frag}
end
end Att
end
section
namespace L2
open PySem PySem.Spec PyProof.Rows
theorem Au:∀{vs:List Value}{ns:List Int},IntsAre vs ns->Vals (ns.map V.int) vs|_,_, .nil=> .nil|_,_, .cons n t h=> .cons ⟨t,rfl⟩ (Au h)
noncomputable abbrev KOf{K:PySem.W.Frag}{h:Heap}(_:K.In h):PySem.W.Frag:=K
noncomputable def inClass(s:Stmt)(j:Nat):Stmt:=match s with| .ClassDef _ _ _ body _ _ _ _ _ _ _=>body.getD j (.Pass ⟨0,0,0,0⟩)|_=> .Pass ⟨0,0,0,0⟩
noncomputable def gp(s:Stmt):Arguments:=match s with| .FunctionDef _ a _ _ _ _ _ _ _ _=>a|_=>{posonlyargs:=[],args:=[],vararg:=none,kwonlyargs:=[],kw_defaults:=[],kwarg:=none,defaults:=[]}
noncomputable def cW(s:Stmt):List Stmt:=match s with| .FunctionDef _ _ b _ _ _ _ _ _ _=>b|_=>[]
noncomputable def ar(s:Stmt):Scope:=match s with| .FunctionDef _ _ _ _ _ _ sc _ _ _=>sc|_=>{kind:= .function,names:=[],isGenerator:=false,isCoroutine:=false}
noncomputable abbrev bE:oJ:=λ_ _ _ _ _ _ _=>False
noncomputable abbrev E0:XK:=λ_ _ _=>False
theorem aK{X:Cx}:Passes bE X E0:=λ_ _ _ _ _ _ _ h=>h.elim
structure WW(K:PySem.W.Frag)(x qual:Str)(st:Stmt)(f:Addr)(fd:FuncData):Prop where
 ex:∃(oc:Value)(od:Option Addr)(kV doc pm:Value)(an:Option Addr)(cS ct:Value)(Fn:Array (Option Value)),fd=PySem.W.fnOf x qual (gp st) (cW st) (ar st) .none kV doc pm an cS ct/\K.lookup f=some ⟨oc,od, .func fd,Fn⟩/\PySem.W.codeIn K cS qual=true
 kp:PySem.W.keepIn K (.ref f)=true
section
variable{P:Program}{w:World}{K:PySem.W.Frag}{mg:Str->Option Value}{base:Heap}
theorem WW.ok{x qual:Str}{st:Stmt}{f:Addr}{fd:FuncData}{N ps:List Str}{k:Nat}{sp:Sp}(F:WW K x qual st f fd)(S:aT N ps (ar st))(len:∀vs H Q E,sp vs H Q E->vs.length=ps.length)(a:∀(cS:Value)(A:Around)(outer:List Env)(s:Shared)(H:Hp)(vs:List V)(Q:VK)(E:XK),da k (A.deeper (envOfC qual (ar st) s.heap.objs.size f cS))->sp vs H Q E->∃t,iz (fh bE P w K mg base N qual (ar st) f cS A outer s H E).QS (cW st) t/\t {nx:=λ_ H'=>Q .aW H',rt:=Q} (start N vs) H):oN P w K mg base bE (k+1) f fd ps sp:=by obtain⟨oc,od,kV,doc,pm,an,cS,ct,Fn,rfl,e,b⟩:=F.ex;refine JZ e b S len λA outer s H vs Q E c d=>?_;obtain⟨t,h,q⟩:=a cS A outer s H vs Q E c d;exact⟨t,h.QS,q⟩
theorem WW.binds{x qual:Str}{st:Stmt}{f:Addr}{fd:FuncData}{ps:List Str}(F:WW K x qual st f fd)(h:∀(kV doc pm:Value)(an:Option Addr)(cS ct:Value)(us:List Value),us.length=ps.length->bindArgs (PySem.W.fnOf x qual (gp st) (cW st) (ar st) .none kV doc pm an cS ct) ⟨us,[]⟩=pure (ps.zip us)):Binds K fd ps []:=by obtain⟨oc,od,kV,doc,pm,an,cS,ct,Fn,rfl,b,a⟩:=F.ex;exact .all (h kV doc pm an cS ct)
theorem QY{x qual:Str}{st:Stmt}{f:Addr}{oc:Value}{od an:Option Addr}{Fn:Array (Option Value)}{kV doc pm cS ct:Value}(l:K.lookup f=some ⟨oc,od, .func (PySem.W.fnOf x qual (gp st) (cW st) (ar st) .none kV doc pm an cS ct),Fn⟩)(c:PySem.W.codeIn K cS qual=true)(k:PySem.W.keepIn K (.ref f)=true):WW K x qual st f (PySem.W.fnOf x qual (gp st) (cW st) (ar st) .none kV doc pm an cS ct):=⟨⟨oc,od,kV,doc,pm,an,cS,ct,Fn,rfl,l,c⟩,k⟩
end
theorem x_{A:Around}{k:Nat}(a:da k A):A.units+1<cLine:=Nat.lt_of_le_of_lt (Nat.add_le_add_left (by decide:1<=64) _) a.units
section
variable{X:Cx}
theorem pv(i:Nat){x:Str}{d:Pos}(a:X.N[i]?=some x:=by rfl)(c:Vis X.env.scope x:=by first|exact Or.inl rfl|exact Or.inr (Or.inl rfl)|exact Or.inr (Or.inr rfl))(hd:(x==("__debug__":Str))=false:=by decide)(b:(x==("__classdict__":Str))=false:=by decide):PE X (.Name x d) (Zs i):=RH a c hd b
end
theorem jP{A B:Prop}(h:B):if false=true then A else B:=by rw[if_neg fQ];exact h
theorem qR{A B:Prop}(h:A):if true=true then A else B:=by rw[if_pos rfl];exact h
theorem aY{c A B:Prop}[Decidable c](h1:c->A)(h2:¬c->B):if c then A else B:=by
 by_cases h:c;·rw[if_pos h];exact h1 h
 ·rw[if_neg h];exact h2 h
def aM(H H':Hp):Prop:=∀b o,H b=some o->H' b=some o
theorem aM.refl(H:Hp):aM H H:=λ_ _ h=>h
theorem aM.trans{H d e:Hp}(a:aM H d)(b:aM d e):aM H e:=λc o h=>b c o (a c o h)
theorem aM.free{H H':Hp}(e:aM H H'){l:Addr}(h:H' l=Option.none):H l=Option.none:=by cases q:H l with|none=>rfl|some o=>rw[e l o q]at h;cases h
section
variable{X:Cx}
end
section
variable{κ:Type}[DecidableEq κ]
theorem SW{aH:List (κ×V)}{k:κ}{v:V}(h:fb aH k=some v):k∈aH.map (·.1):=by
 have q:(aH.any λa=>decide (a.1=k))=true:=by rw[xv,h];all_goals rfl
 obtain⟨p,hp,e⟩:=List.any_eq_true.mp q;exact List.mem_map.mpr ⟨p,hp,of_decide_eq_true e⟩
end
end L2
end
section
namespace L3
open PySem PySem.Spec PyProof.Rows L2
noncomputable def eD(env:Env):List (Str×NameKind)->List (Str×Addr)->List (Str×Addr)|[],cs=>cs|(n,k)::r,cs=>eD env r (if(k== .free)=true then(n,(env.cells.lookup n).getD 0)::cs else cs)
theorem yx{env:Env}{scope:Scope}(h:∀x∈scope.names,x.2= .free->∃c,env.cells.lookup x.1=some c):closureFor scope env=pure (eD env scope.names []):=by
 unfold closureFor;have go:∀(l:List (Str×NameKind))(cs:List (Str×Addr)),(∀x∈l,x.2= .free->∃c,env.cells.lookup x.1=some c)->(forIn l cs λ(x:Str×NameKind)(r:List (Str×Addr))=>if(x.2== .free)=true then(do let a<-cellOf env x.1;pure (ForInStep.yield ((x.1,a)::r)))else pure (ForInStep.yield r):Sem (List (Str×Addr)))=pure (eD env l cs):=by
  intro l;induction l with
   |nil=>intro cs _;rfl
   |cons x l f=>
    intro cs hl;obtain⟨n,k⟩:=x;have d:∀y∈l,y.2= .free->∃c,env.cells.lookup y.1=some c:=λy g=>hl y (dW _ g);rw[List.forIn_cons,eD];by_cases b:(k==NameKind.free)=true
    ·obtain⟨c,hc⟩:=hl (n,k) d4 (by simpa using b);have hc:env.cells.lookup n=some c:=hc;have e:cellOf env n=pure c:=by unfold cellOf;rw[hc]
     simp only[b,if_true,e,pure_bind,hc,Option.getD_some];exact f _ d
    ·simp only[b,if_false,pure_bind];exact f _ d
 have q:=go scope.names [] h;simp only[bind_pure];exact q
theorem ow{env:Env}{x:Str}:∀(l:List (Str×NameKind))(cs:List (Str×Addr)),(∃c,cs.lookup x=some c)->∃c,(eD env l cs).lookup x=some c
 |[],_,h=>h
 |(n,k)::r,cs,h=>by
  rw[eD];refine ow r _ ?_;by_cases a:(k==NameKind.free)=true;·rw[if_pos a,n9];cases x==n with|true=>exact⟨_,rfl⟩|false=>exact h
  ·rw[if_neg a];exact h
theorem kj{env:Env}{x:Str}:∀(l:List (Str×NameKind))(cs:List (Str×Addr)),(x,NameKind.free)∈l->∃c,(eD env l cs).lookup x=some c
 |[],_,h=>by cases h
 |(n,k)::r,cs,h=>by
  rw[eD];rcases List.mem_cons.mp h with e|h;·cases e;refine ow r _ ?_;rw[if_pos (by decide),n9,beq_self_eq_true];exact⟨_,rfl⟩
  ·exact kj r _ h
theorem kY{env:Env}:∀(l:List (Str×NameKind))(cs:List (Str×Addr)),(∀x∈l,x.2= .free->∃c,env.cells.lookup x.1=some c)->(∀x c,cs.lookup x=some c->env.cells.lookup x=some c)->∀x c,(eD env l cs).lookup x=some c->env.cells.lookup x=some c
 |[],_,_,h=>h
 |(n,k)::r,cs,hl,h=>by
  rw[eD];refine kY r _ (λy g=>hl y (dW _ g)) λx c e=>?_;by_cases b:(k==NameKind.free)=true
  ·rw[if_pos b,n9]at e;cases d:x==n with
    |true=>
     rw[d]at e;obtain rfl:x=n:=by simpa using d
     obtain⟨f,a⟩:=hl (x,k) d4 (by simpa using b);have a:env.cells.lookup x=some f:=a;rw[a]at e⊢;exact e
    |false=>rw[d]at e;exact h x c e
  ·rw[if_neg b]at e;exact h x c e
theorem nI{env:Env}:∀{l:List (Str×NameKind)}{x:Str},l.lookup x=some .free->(l.map λ(p:Str×NameKind)=>if(p.2==NameKind.free&&env.scope.kind== .function&&env.kindOf p.1==some .cell)then(p.1,NameKind.cell)else(p.1,p.2)).lookup x=some .cell\/(l.map λ(p:Str×NameKind)=>if(p.2==NameKind.free&&env.scope.kind== .function&&env.kindOf p.1==some .cell)then(p.1,NameKind.cell)else(p.1,p.2)).lookup x=some .free
 |[],_,h=>by simp at h
 |(n,k)::r,x,h=>by
  have b:=@nI env r x;rw[n9]at h;rw[d7];by_cases hc:(k==NameKind.free&&env.scope.kind== .function&&env.kindOf n==some .cell)=true;·simp only[hc,if_true];rw[n9];cases a:x==n with|true=>exact .inl rfl|false=>rw[a]at h;exact b h
  ·simp only[hc,Bool.false_eq_true,if_false];rw[n9];cases a:x==n with|true=>rw[a]at h;exact .inr h|false=>rw[a]at h;exact b h
theorem xS{env:Env}:∀{l:List (Str×NameKind)}{x:Str},(∀y∈l,y.2≠ .cell)->((l.map λ(p:Str×NameKind)=>if(p.2==NameKind.free&&env.scope.kind== .function&&env.kindOf p.1==some .cell)then(p.1,NameKind.cell)else(p.1,p.2)).lookup x=some .cell\/(l.map λ(p:Str×NameKind)=>if(p.2==NameKind.free&&env.scope.kind== .function&&env.kindOf p.1==some .cell)then(p.1,NameKind.cell)else(p.1,p.2)).lookup x=some .free)->(x,NameKind.free)∈l
 |[],_,_,h=>by simp at h
 |(n,k)::r,x,hl,h=>by
  have b:=@xS env r x λy c=>hl y (dW _ c);rw[d7]at h;by_cases hc:(k==NameKind.free&&env.scope.kind== .function&&env.kindOf n==some .cell)=true
  ·simp only[hc,if_true]at h;rw[n9]at h;cases a:x==n with
    |true=>
     obtain rfl:x=n:=by simpa using a
     have :k= .free:=by simp only[cY]at hc;simpa using hc.1.1
     rw[this];exact d4
    |false=>rw[a]at h;exact dW _ (b h)
  ·simp only[hc,Bool.false_eq_true,if_false]at h;rw[n9]at h;cases a:x==n with
    |true=>
     rw[a]at h;obtain rfl:x=n:=by simpa using a
     rcases h with h|h;·exact absurd (Option.some.inj h) (hl (x,k) d4)
     ·have :k= .free:=Option.some.inj h;rw[this];exact d4
    |false=>rw[a]at h;exact dW _ (b h)
noncomputable abbrev Gx(X:Cx)(scope:Scope)(C:Addr):Env:=compEnvC scope (eD X.env scope.names []) C X.env
noncomputable abbrev dX(X:Cx)(N':List Str)(scope:Scope)(a:Shared)(b:Hp)(fp:List Addr):Cx:={X with N:=N',cC:=a,H₀:=b,env:=Gx X scope a.heap.objs.size,outer:=X.stack,stack:=X.stack,ex:=fp,fn:=λ_=>false,pn:=X.pn,xe:=λ_ _=>False}
noncomputable def hI(own:Nat)(fr:List Nat)(σ:L2.St):L2.St:=List.replicate own none++fr.map λi=>(σ[i]?).join
structure nG(X:Cx)(N':List Str)(own:Nat)(fr:List Nat)(scope:Scope):Prop where
 kind:scope.kind= .function
 oP:∀y∈scope.names,y.2≠ .cell
 loc:∀x∈scope.names,x.2= .local->scope.names.lookup x.1=some .local
 free:∀x∈scope.names,x.2= .free->X.env.kindOf x.1=some .cell\/X.env.kindOf x.1=some .free
 len:N'.length=own+fr.length
 fr:∀j i,fr[j]?=some i->∃x,N'[own+j]?=some x/\X.N[i]?=some x/\scope.names.lookup x=some .free
theorem xW{fs ex:List Addr}{H H':Hp}{h h1 h2:Heap}{C:Addr}(u:Un fs ex H H' h h1)(d:h.objs.size<=C)(c:Heap.SameBut C h1 h2):Un fs ex H H' h h2:=by
 have ne:∀b o,h.get? b=some o->b≠C:=λb o e=>eg (gK (bT e) d);refine⟨λb o e n hb a=>(c.2 b (ne b o e)).trans (u.keep b o e n hb a),λb o e n hb a=>?_,u.free,λb o e a=>?_,u.xJ,u.qZ,u.qY⟩;·obtain⟨sl,q⟩:=u.slot b o e n hb a;exact⟨sl,(c.2 b (ne b o e)).trans q⟩
 ·obtain⟨o',q⟩:=u.there b o e a;exact⟨o',(c.2 b (ne b o e)).trans q⟩
theorem DZ{P:Program}{w:World}{H:Hp}{h h2:Heap}{C:Addr}(k:jN P w H h)(a:H C=none)(d:Heap.SameBut C h h2):jN P w H h2:=λb ob e=>by
 refine(k b ob e).mP (λc f hc q=>(d.2 c ?_).trans q) (λ_ q=>q) λ_ _ q=>q;rintro rfl;rcases hc with rfl|hc;·rw[a]at e;cases e
 ·rw[a]at hc;cases hc
noncomputable def AV(Y:Cx)(a:List Expr)(b:TT):Prop:=∀(pins:List (Addr×Obj))(s:Shared)(σ:L2.St)(H:Hp)(Q:Bool->Hp->Prop),Inv Y pins σ H s->b σ H Q->wpAny (model Y.prog Y.w) Y.A (forIn a true λc r=>if r=true then do let ok<-isTrue c Y.env (eval c Y.env);pure (ForInStep.yield ok)else pure (ForInStep.yield r)) (TP Y pins σ Q) Y.xe s
noncomputable def Cb:TT:=λ_ H Q=>Q true H
theorem me{Y:Cx}:AV Y [] Cb:=λ_ _ _ H _ I h=>wpAny_tests_nil ⟨H,I,h⟩
theorem IL{Y:Cx}{c:Expr}{t:TT}(h:PT Y c t):AV Y [c] t:=λpins s σ H Q I hq=>wpAny_tests_one (h pins s σ H Q I hq)
section
variable{prog:Program}{w:World}{A:Around}{R:Result->Shared->Prop}{s:Shared}
theorem pJ{b target iter:Expr}{d:List Expr}{scope:Scope}{j:Pos}{it a:Value}{env:Env}(J:Nat->Shared->Prop)(turn:∀n s,J n s->wpAny (model prog w) A (pyNext it) (λr e=>match r with|none=>R (.ok .next) e|some v=>wpAny (model prog w) A (letOwnedTupleGo target it v) (λ_ cC=>wpAny (model prog w) A (assign target env v) (λ_ k=>wpAny (model prog w) A (forIn d true λc r=>if r=true then do let ok<-isTrue c env (eval c env);pure (ForInStep.yield ok)else pure (ForInStep.yield r)) (λok g=>if ok=true then wpAny (model prog w) A (eval b env) (λx l=>wpAny (model prog w) A (call (.builtin "list.append") [a,x]) (λ_ o=>∃m,m<n/\J m o) (λ_ _=>False) l) (λ_ _=>False) g else∃m,m<n/\J m g) (λ_ _=>False) k) (λ_ _=>False) cC) (λ_ _=>False) e) (λ_ _=>False) s)(n:Nat)(h:J n s):codeAny (model prog w) A (.compLoop (.ListComp b [⟨target,iter,d,0⟩] scope j) 0 it a env) R s:=by refine codeAny_loop rfl J (λn s u=>?_) n h;show wpAny _ A ((compTurn (.ListComp b [⟨target,iter,d,0⟩] scope j) 0 it a env).onRaise (λx=>do noteFrame x env;theTreesLotGoes x)) _ _ s;refine wpAny_noted ?_;rw[compTurn_list];have no:∀{p:Type}{m:Sem p}{Q:p->Shared->Prop}{t:Value->Shared->Prop}{s':Shared},wpAny (model prog w) A m Q (λ_ _=>False) s'->wpAny (model prog w) A m Q t s':=λhm=>gm hm (λ_ _ q=>q) λ_ _ f=>f.elim;refine aA (wpAny_standAt (aA (no (gm (turn n s u) (λr e h₁=>?_) λ_ _ h'=>h'))));cases r with|none=>exact bB h₁|some v=>refine aA (no (gm h₁ (λ_ cC h₀=>aA (no (gm h₀ (λ_ k y=>aA (no (gm y (λok g i=>?_) λ_ _ h'=>h'))) λ_ _ h'=>h'))) λ_ _ h'=>h'));cases ok with|false=>exact bB ⟨rfl,i⟩|true=>exact aA (aA (no (gm i (λx l z=>aA (no (gm z (λ_ o B=>bB (bB ⟨rfl,B⟩)) λ_ _ h'=>h'))) λ_ _ h'=>h')))
end
def Own(own:Nat)(g:TG):Prop:=∀v σ H Q,g v σ H Q->g v σ H λa b=>Q a b/\a.length=σ.length/\∀i,own<=i->a[i]?=σ[i]?
theorem iC{own i:Nat}(h:i<own):Own own (j4 i):=λv σ H Q q=>⟨q,by simp,λj a=>List.getElem?_set_ne (by lia)⟩
theorem Pk{own i j n:Nat}{K:PySem.W.Frag}(hi:i<own)(e:j<own):Own own (abE K n (Q8 (j4 i) (Q8 (j4 j) ac4))):=by intro v σ H Q q;obtain⟨a,xs,e1,e2,e3,x,r,e4,y,d,b,c,q⟩:=q;refine⟨a,xs,e1,e2,e3,x,r,e4,y,d,b,c,q,by simp,λk f=>?_⟩;rw[List.getElem?_set_ne (by lia),List.getElem?_set_ne (by lia)]
noncomputable def Va(own:Nat)(fr:List Nat)(o:TI)(g:TG)(n:TT)(l:TE):TE:=λσ H Q=>o σ H λJ d=>∀p,d p=none->∃W:Nat->Nat->List V->Hp->Prop,(∃m,W 0 m [] (upd d p (.lst [])))/\∀i m a b,W i m a b->(J.stop i b/\Q (.ref p) b)\/(J.go i b/\∀x e,J.zH i b x e->g x (hI own fr σ) e λj k=>n j k λok f=>if ok=true then l j f λv h=>h p=some (.lst a)/\a.length<sizeLine/\∃c,c<m/\W (i+1) c (a++[v]) (upd h p (.lst (a++[v])))else∃c,c<m/\W (i+1) c a f)
theorem HJ{X:Cx}{scope:Scope}{N':List Str}{own:Nat}{fr:List Nat}{pins:List (Addr×Obj)}{σ:L2.St}{f:Hp}{d:Shared}{h4:Heap}{fp:List Addr}{t4:Nat}{m:Str->Option Value}(S:nG X N' own fr scope)(a:Inv X pins σ f d)(g:∀b∈fp,m8 X pins f b/\b<d.heap.objs.size)(keep:∀b o,d.heap.get? b=some o->h4.get? b=some o)(C:h4.Ns d.heap.objs.size m):Inv (dX X N' scope d f fp) [] (hI own fr σ) f {d with heap:=h4,toks:=t4}:=by
 have A:∀x∈scope.names,x.2= .free->∃c,X.env.cells.lookup x.1=some c:=λx n e=>a.ok.has x.1 (S.free x n e);have snd:∀x c,(eD X.env scope.names []).lookup x=some c->X.env.cells.lookup x=some c:=kY _ _ A λx c e=>by simp at e
 have ok:(dX X N' scope d f fp).Ok:=by
  refine⟨a.ok.mod,S.kind,a.ok.glob,a.ok.blt,bK _,λx y c e1 e2=>a.ok.inj x y c (snd x c e1) (snd y c e2),λx n=>kj _ _ (xS S.oP n),λx c z=>(by cases z),a.ok.hd,a.ok.frames, .inl rfl,λb hb=>⟨eg (g b hb).2,λx c e=>(g b hb).1.2.2.2.2.1 x c (snd x c e)⟩,a.bs,c8 a.ok.FD a.sz,λb o e hb=>?_,λb hb D=>?_,a.stack,a.BY⟩
  ·rcases(g b hb).1.2.2.2.1 with z|z;·exact a.ok.zq b o e z
   ·exact absurd (gK (bT e) a.ok.FD) (Nat.not_lt.mpr z)
  ·rcases List.mem_cons.mp (a.gD b D)with z|z;·exact(g b hb).1.2.1 z
   ·exact(g b hb).1.2.2.1 z
 refine⟨ok,rfl,a.bare,Un.kept keep,⟨m,C,λi x v h1 h2 h3=>?_⟩,λx c e=>?_,a.b9.fresh (bK _),λx c e=>a.fe x c (snd x c e),λp hp=>?_,a.b9.kept keep,?_⟩
 ·have h1:N'[i]?=some x:=h1;have hi:¬i<own:=λz=>by unfold hI at h2;rw[Fx (by simpa using z),List.getElem?_replicate]at h2;split at h2<;>cases h2
  obtain⟨j,rfl⟩:∃j,i=own+j:=⟨i-own,by lia⟩;unfold hI at h2;rw[List.getElem?_append_right (by simp),List.length_replicate,Nat.add_sub_cancel_left,List.getElem?_map]at h2;cases h:fr[j]? with
   |none=>rw[h]at h2;cases h2
   |some k=>
    rw[h]at h2;have h2:(σ[k]?).join=some v:=Option.some.inj h2;have E:σ[k]?=some (some v):=by cases q:σ[k]? with|none=>rw[q]at h2;cases h2|some I=>rw[q]at h2;exact congrArg some h2
    obtain⟨J,e1,e2,e3⟩:=S.fr j k h;rw[h1]at e1;cases e1;have mem:=PySem.mem_of_lookup e3;have t:=S.free _ mem rfl;obtain⟨H,G,B⟩:=a.loc;obtain⟨u,r,look⟩:=B k x v e2 E (.inr t);rcases look with⟨q,_⟩|⟨q,c,hc,o,l,hd⟩
    ·rcases t with z|z;·have z:X.env.kindOf x=some .cell:=z;rw[z]at q;cases q
     ·have z:X.env.kindOf x=some .free:=z;rw[z]at q;cases q
    ·obtain⟨w,e'⟩:=kj (env:=X.env) scope.names [] mem;have s:=snd x w e';rw[hc]at s;cases s;exact⟨u,r, .inr ⟨nI e3,c,e',o,keep _ _ l,hd⟩⟩
 ·obtain⟨v,o,l,hd⟩:=a.cell x c (snd x c e);exact⟨v,o,keep _ _ l,hd⟩
 ·obtain⟨q1,q2,q3,q4,F⟩:=a.pin p (qP _ (by simpa using hp));refine⟨keep _ _ q1,q2,eg (bT q1),λz=>?_,F⟩;rcases List.mem_cons.mp (a.gD _ z)with z|z;·exact q3 z
  ·exact q4 z
 ·show(hI own fr σ).length=N'.length;unfold hI;rw[S.len,iJ,List.length_replicate,dI]
theorem oh{X:Cx}{tg iter F:Expr}{O:List Expr}{scope:Scope}{pos:Pos}{wi:TI}{g:TG}{tt:TT}{te:TE}{N':List Str}{own:Nat}{fr:List Nat}(hc:X.calm=true)(S:nG X N' own fr scope)(hi:PI X tg iter wi)(ho:Own own g)(hg:∀A w fp,PG (dX X N' scope A w fp) tg g)(hf:∀A w fp,AV (dX X N' scope A w fp) O tt)(he:∀A w fp,PE (dX X N' scope A w fp) F te)(hs:∀x,foldedSetIterable iter X.env x=pure x:=by intro _;rfl):PE X (.ListComp F [⟨tg,iter,O,0⟩] scope pos) (Va own fr wi g tt te):=by
 intro pins s σ H Q I h;have Gp:∀x∈scope.names,x.2= .free->∃c,X.env.cells.lookup x.1=some c:=λx hx e=>I.ok.has x.1 (S.free x hx e);rw[eval_ListComp];refine wpAny_comprehension_free (use:=none) rfl hs (yx Gp) S.kind S.loc ?_;refine bX (hi pins s σ H _ I h) λv s1 h1=>bX h1 λitv s2 h2=>?_;obtain⟨it,fp,tn,J,d,e,I2,T,ZL,f2,h2⟩:=h2;subst e;refine zP (hd:=by size_fits) (wpAny_newFunctionEnv S.oP (by intro y hy;simp at hy) (λh4 L N=>?_) S.kind);have XQ:=I2.b9.fresh (bK s2.heap.objs.size);obtain⟨W,⟨m0,w0⟩,turn⟩:=h2 _ XQ;have C:Inv X pins σ (upd d s2.heap.objs.size (.lst [])) {s2 with heap:=s2.heap.push {cls:= .type "list",dict:=none,data:= .seq ([]:List Value).toArray},toks:=s2.toks}:=I2.ack .nil (eB _);have lt2:∀b∈fp,b<s2.heap.objs.size:=λb hb=>let⟨o,e,_⟩:=T.obj _ _ ZL b hb;bT e;have up2:∀b o,s2.heap.get? b=some o->∀ob:Obj,(s2.heap.push ob).get? b=some o:=λb o e ob=>b_ _ e;have sz3:(s2.heap.push {cls:= .type "list",dict:=none,data:= .seq ([]:List Value).toArray}).objs.size=s2.heap.objs.size+1:=Heap.size_push ..;revert L N C;generalize e3:s2.heap.push {cls:= .type "list",dict:=none,data:= .seq ([]:List Value).toArray}=h3 at sz3⊢;intro L N C;have keep:∀b o,h3.get? b=some o->h4.get? b=some o:=λb o e=>(N.2 b (eg (bT e))).trans (b_ _ e);have G:∀b∈fp,m8 X pins (upd d s2.heap.objs.size (.lst [])) b/\b<h3.objs.size:=λb hb=>by refine⟨⟨?_,(f2 b hb).2⟩,by rw[sz3];exact Nat.lt_succ_of_lt (lt2 b hb)⟩;rw[aZ (eg (lt2 b hb))];exact(f2 b hb).1
 have D:=HJ (t4:=s2.toks+([]:List (Str×Value)).length) S C G keep L;have V:tn 0 h4:=T.keep _ _ _ ZL λb hb o e=>keep b o (by rw[<-e3];exact up2 b o e _);have U:∀{H':Hp},(∀b∈fp,H' b=none)->∀b∈fp,m8 (dX X N' scope {s2 with heap:=h3,toks:=s2.toks} (upd d s2.heap.objs.size (.lst [])) fp) [] H' b:=λ{H'}hn b hb=>⟨hn b hb,eg (G b hb).2,λz=>D.ok.A0 b hb z, .inl hb,(D.ok.YF b hb).2,λp hp=>(f2 b hb).2.2.2.2.2 p (qP _ (by simpa using hp))⟩;have loop:∀sx:Shared,Inv (dX X N' scope {s2 with heap:=h3,toks:=s2.toks} (upd d s2.heap.objs.size (.lst [])) fp) [] (hI own fr σ) (upd d s2.heap.objs.size (.lst [])) sx->tn 0 sx.heap->codeAny (model X.prog X.w) X.A (.compLoop (.ListComp F [⟨tg,iter,O,0⟩] scope pos) 0 (.ref it) (.ref s2.heap.objs.size) (Gx X scope h3.objs.size)) (compPost (model X.prog X.w) X.A X.xe none (EP X pins σ Q) (.ref s2.heap.objs.size) h3.objs.size) sx:=by
  intro sx Ix tx;refine pJ (λn s'=>∃i l H',Inv (dX X N' scope {s2 with heap:=h3,toks:=s2.toks} (upd d s2.heap.objs.size (.lst [])) fp) [] (hI own fr σ) H' s'/\tn i s'.heap/\(∀b∈fp,H' b=none)/\W i n l H') ?_ m0 ⟨0,[],_,Ix,tx,λb hb=>(G b hb).1.1,w0⟩;rintro n s5⟨i,l,B,I5,SS,Yd,w5⟩;rcases turn i n l B w5 with⟨stop,qn⟩|⟨go,step⟩;·refine bX (T.done (dX X N' scope {s2 with heap:=h3,toks:=s2.toks} (upd d s2.heap.objs.size (.lst [])) fp) rfl rfl rfl hc i [] s5 _ B (λ_ _=>False) I5 (U Yd) SS stop) λr s6 a=>?_;obtain⟨M,m⟩:=a;subst M;obtain⟨m6,hm6,_⟩:=id m.loc;refine⟨m6,hm6,λh7 hs7=>⟨.ref s2.heap.objs.size,B,?_,rfl,qn⟩⟩;exact C.Ol (s':={s6 with heap:=h7}) (ch:=fp) m.os (xW m.base (bK _) hs7) (DZ m.b9 m.free hs7) m.bare λb hb=>⟨(f2 b hb).2.2.2.1,(f2 b hb).2.1,(f2 b hb).2.2.2.2.1,(f2 b hb).2.2.2.2.2⟩
  ·refine bX (T.item (dX X N' scope {s2 with heap:=h3,toks:=s2.toks} (upd d s2.heap.objs.size (.lst [])) fp) rfl rfl rfl hc i [] s5 _ B (λ_ _=>False) I5 (U Yd) SS go) λr s6 a=>?_;obtain⟨u,M,h6⟩:=a;subst M;refine bX h6 λ_ s7 a=>?_;obtain⟨x,Z,I7,r7,y7,R,fr7⟩:=a;have I7':=I7.pinned (U fr7) (T.obj _ _ R);refine bX (hg _ _ _ _ s7 _ Z x u _ I7' r7 (ho _ _ _ _ (step x Z y7))) λ_ s8 a=>?_;obtain⟨E,H8,I8,q8,l8,k8⟩:=a;have again:∀{k:Hp}{t:Shared},Inv (dX X N' scope {s2 with heap:=h3,toks:=s2.toks} (upd d s2.heap.objs.size (.lst [])) fp) ([]++ph fp s7.heap) E k t->Inv (dX X N' scope {s2 with heap:=h3,toks:=s2.toks} (upd d s2.heap.objs.size (.lst [])) fp) [] (hI own fr σ) k t/\tn (i+1) t.heap/\∀b∈fp,k b=none:=λ{k t}q=>by
    refine⟨q.ka.weak l8.symm λj v e=>?_,T.keep _ _ _ R λb hb o e=>(q.pin (b,o) (j3 _ (j3 _ (fw hb e)))).1,λb hb=>?_⟩
    ·have hj:own<=j:=by refine Nat.le_of_not_lt λz=>?_;unfold hI at e;rw[Fx (by simpa using z),List.getElem?_replicate]at e;split at e<;>cases e
     rw[k8 j hj];exact e
    ·obtain⟨o,e,_⟩:=T.obj _ _ R b hb;exact(q.pin (b,o) (j3 _ (j3 _ (fw hb e)))).2.1
   refine bX (hf _ _ _ _ s8 E H8 _ I8 q8) λok t a=>?_;obtain⟨k,q,q9⟩:=a;cases ok with|false=>obtain⟨P,K,w9⟩:=q9;obtain⟨a1,a2,a3⟩:=again q;exact⟨P,K,i+1,l,k,a1,a2,a3,w9⟩|true=>refine bX (he _ _ _ _ t E k _ q q9) λy Ug a=>?_;obtain⟨v,Y,I10,r10,Zz,XB,P,K,w10⟩:=a;refine bX (fj _ Ug E Y (.ref s2.heap.objs.size) [v] (.ref s2.heap.objs.size) [y] (λ_ Hn=>Hn=upd Y s2.heap.objs.size (.lst (l++[v]))) I10 rfl (.cons r10 .nil) ⟨_,l,v,rfl,rfl,Zz,XB,rfl⟩) λ_ s11 a=>?_;obtain⟨_,H11,I11,_,e11⟩:=a;subst e11;obtain⟨a1,a2,a3⟩:=again I11;exact⟨P,K,i+1,l++[v],_,a1,a2,a3,w10⟩
 exact codeAny_compStart_list (loop _ D V) (gm (T.self X.A 0 _ (λv s'=>v= .ref it/\s'=_) (λ_ _=>False) V ⟨rfl,rfl⟩) (λv s'⟨e1,e2⟩=>by subst e1;subst e2;exact loop _ D V) λ_ _ f=>f.elim)
def Nx(n i:Nat)(P:Prop):Prop:=∃a,a<n-i/\a=n-(i+1)/\i+1<=n/\P
theorem nx{n i:Nat}{P:Prop}(h:i<n)(p:P):Nx n i P:=⟨n-(i+1),by lia,rfl,h,p⟩
theorem kE{J:It}{p:Addr}{l:Hp}{g:TG}{q:TT}{o:TE}{b:L2.St}{Q:VK}(n:Nat)(Pv:Nat->List V->Hp->Prop)(r:Pv 0 [] (upd l p (.lst [])))(s:∀i a c,i<n->Pv i a c->J.go i c/\∀x d,J.zH i c x d->g x b d λj k=>q j k λok e=>if ok=true then o j e λv f=>f p=some (.lst a)/\a.length<sizeLine/\Nx n i (Pv (i+1) (a++[v]) (upd f p (.lst (a++[v]))))else Nx n i (Pv (i+1) a e))(hd:∀a c,Pv n a c->J.stop n c/\Q (.ref p) c):∃W:Nat->Nat->List V->Hp->Prop,(∃m,W 0 m [] (upd l p (.lst [])))/\∀i m a c,W i m a c->(J.stop i c/\Q (.ref p) c)\/(J.go i c/\∀x d,J.zH i c x d->g x b d λj k=>q j k λok e=>if ok=true then o j e λv f=>f p=some (.lst a)/\a.length<sizeLine/\∃h,h<m/\W (i+1) h (a++[v]) (upd f p (.lst (a++[v])))else∃h,h<m/\W (i+1) h a e):=by
 refine⟨λi m a H=>m=n-i/\i<=n/\Pv i a H,⟨n,by simp,eB _,r⟩,?_⟩;rintro i m a c⟨rfl,hi,w⟩;by_cases t:i<n;·exact .inr (s i a c t w)
 ·obtain rfl:i=n:=by lia
  exact .inl (hd a c w)
end L3
end
section
namespace L3
open PySem L2
section
variable{prog:Program}{w:World}{A:Around}{E:Value->Shared->Prop}{s:Shared}
end
structure pB(z TI TO i1 i2:Nat)(f1 f2:List Nat):Prop where
 TIz:TI≠z
 TOz:TO≠z
 TITO:TI≠TO
 TI1:TI≠i1
 TI2:TI≠i2
 TO1:TO≠i1
 TO2:TO≠i2
 i1z:i1≠z
 i2z:i2≠z
 zf1:z∉f1
 zf2:z∉f2
 Tf1:TO∉f1
 Tf2:TO∉f2
 ae6:i2∉f1
 afw:i1∉f2
section
variable{prog:Program}{w:World}{A:Around}{E:Value->Shared->Prop}{s:Shared}
variable{z TI TO i1 i2:Addr}{f1 f2:List Addr}{n1 n2:Nat}{P1 P2:Nat->Value->Prop}{S1 S2:Nat->Heap->Prop}
theorem MW{i:Nat}{a b:Value}{Q:Value->Shared->Prop}(D1:Draws prog w A i1 f1 n1 P1 S1)(u:Draws prog w A i2 f2 n2 P2 S2)(d:pB z TI TO i1 i2 f1 f2)(l:IsZip s.heap z TI TO .none)(O:IsPair s.heap TI (.ref i1) (.ref i2))(P:IsPair s.heap TO a b)(s1:S1 i s.heap)(s2:S2 i s.heap)(U:i<n1)(V:i<n2)(R:∀x y h' tk,P1 i x->P2 i y->IsZip h' z TI TO (rawInt s.heap.objs.size)->IsPair h' TO x y->S1 (i+1) h'->S2 (i+1) h'->IsPair h' s.heap.objs.size x y->(∀c o,c≠z->c≠TO->c≠i1->c≠i2->s.heap.get? c=some o->h'.get? c=some o)->Q (.ref s.heap.objs.size) {s with heap:=h',toks:=tk}):wpAny (model prog w) A (Builtin.«zip.__next__» ⟨[.ref z],[]⟩) (λfin s'=>∃v,fin= .done (.ret v)/\Q v s') E s:=by
 have m:∀{k:Nat}{h h':Heap}{c:Addr},c∉f1->Heap.SameBut c h h'->S1 k h->S1 k h':=λ{k h h' c}hc sb st=>D1.frame _ _ _ st λq hq o e=>(sb.2 q λz=>hc (z▸hq)).trans e;have n:∀{k:Nat}{h h':Heap}{c:Addr},c∉f2->Heap.SameBut c h h'->S2 k h->S2 k h':=λ{k h h' c}hc sb st=>u.frame _ _ _ st λq hq o e=>(sb.2 q λz=>hc (z▸hq)).trans e;show wpAny (model prog w) _ (field (.ref z) 2>>=_) _ _ _;refine aA (fg l rfl (x:= .bool false) rfl ?_);show wpAny (model prog w) _ (field (.ref z) 3>>=_) _ _ _;refine aA (fg l rfl (x:= .ref TI) rfl ?_);refine aA (wpAny_seqItems O rfl ?_);show wpAny (model prog w) _ (Builtin.SmallTypes.ownedTupleIsFree (.ref z)>>=_) _ _ _;refine aA ?_;unfold Builtin.SmallTypes.ownedTupleIsFree;refine aA (fg l rfl (x:= .none) rfl (bB ?_));simp only[if_true];refine aA (wpAny_rule ?_);refine aA (fg l rfl (x:= .ref TO) rfl ?_);refine aA (wpAny_setField_rec l (by simp) λk1 F b1=>?_);replace F:IsZip k1 z TI TO .ellipsis:=F;refine aA ?_;simp only[List.zipIdx_cons,List.zipIdx_nil,List.forIn_cons,List.forIn_nil];refine aA (aA (wpAny_onRaise ?_));show wpAny (model prog w) _ (Builtin.SmallTypes.nextOf (.ref i1)>>=_) _ _ _;refine aA (D1.item i _ _ _ U (m d.zf1 b1 s1) λx k2 t2 W q2 b2=>bB ?_);have K:IsPair k2 TO a b:=b2.extBut _ _ d.TO1 (b1.extBut _ _ d.TOz P);refine aA (wpAny_seqItems K rfl ?_);refine aA (wpAny_updateSeq_pair K λk3 D b3=>?_);replace D:IsPair k3 TO x b:=D;refine aA (wpAny_letGo (bB ?_));refine aA (aA (wpAny_onRaise ?_));show wpAny (model prog w) _ (Builtin.SmallTypes.nextOf (.ref i2)>>=_) _ _ _;refine aA (u.item i _ _ _ V (n d.Tf2 b3 (n d.afw b2 (n d.zf2 b1 s2))) λy S t4 X q4 g=>bB ?_);have L:IsPair S TO x b:=g.extBut _ _ d.TO2 D;refine aA (wpAny_seqItems L rfl ?_);refine aA (wpAny_updateSeq_pair L λf r j=>?_);replace r:IsPair f TO x y:=r;refine aA (wpAny_letGo (bB (bB ?_)));refine aA (wpAny_seqItems r rfl ?_);refine aA (wpAny_newTuple ?_);have sz:f.objs.size=s.heap.objs.size:=by rw[j.1,g.1,b3.1,b2.1,b1.1]
 have N:IsZip f z TI TO .ellipsis:=j.extBut _ _ d.TOz.symm (g.extBut _ _ d.i2z.symm (b3.extBut _ _ d.TOz.symm (b2.extBut _ _ d.i1z.symm F)));have kp:∀c o,c≠z->c≠TO->c≠i1->c≠i2->s.heap.get? c=some o->f.get? c=some o:=λc o c1 c2 B C e=>j.extBut _ _ c2 (g.extBut _ _ C (b3.extBut _ _ c2 (b2.extBut _ _ B (b1.extBut _ _ c1 e))));have Y:S1 (i+1) f:=m d.Tf1 j (m d.ae6 g (m d.Tf1 b3 q2));have Z:S2 (i+1) f:=n d.Tf2 j q4;have J:z<f.objs.size:=bT N;show wpAny (model prog w) _ (Builtin.SmallTypes.ownedTupleHandOut (.ref z) (.ref f.objs.size)>>=_) _ _ _;refine aA ?_;unfold Builtin.SmallTypes.ownedTupleHandOut;have z6:IsZip (f.push {cls:= .type "tuple",data:= .seq #[x,y]}) z TI TO .ellipsis:=b_ _ N;refine aA (wpAny_setField_rec z6 (by simp) λT G H=>?_);replace G:IsZip T z TI TO (rawInt f.objs.size):=G;refine wpAny_setField_rec G (by simp) λp t I=>?_;replace t:IsZip p z TI TO (rawInt f.objs.size):=t;have up:∀c o,c≠z->f.get? c=some o->p.get? c=some o:=λc o c1 e=>I.extBut _ _ c1 (H.extBut _ _ c1 (b_ _ e));have M:IsPair p f.objs.size x y:=I.extBut _ _ (Nat.ne_of_gt J) (H.extBut _ _ (Nat.ne_of_gt J) (gT _ rfl));rw[sz]at t M;refine bB ⟨_,rfl,?_⟩;show Q (.ref f.objs.size) _;rw[sz];exact R x y p _ W X t (up _ _ d.TOz r) (D1.frame _ _ _ Y λq hq o e=>up q o (λz=>d.zf1 (z▸hq)) e) (u.frame _ _ _ Z λq hq o e=>up q o (λz=>d.zf2 (z▸hq)) e) M λc o c1 c2 B C e=>up c o c1 (kp c o c1 c2 B C e)
theorem Mb{a b:Value}{Q:Fin->Shared->Prop}(D1:Draws prog w A i1 f1 n1 P1 S1)(h:pB z TI TO i1 i2 f1 f2)(d:IsZip s.heap z TI TO .none)(l:IsPair s.heap TI (.ref i1) (.ref i2))(r:IsPair s.heap TO a b)(s1:S1 n1 s.heap)(m:∀h' e,(∀c o,c≠z->c≠TO->c≠i1->c≠i2->s.heap.get? c=some o->h'.get? c=some o)->(∃o,h'.get? e=some o/\o.cls= .type "StopIteration")->E (.ref e) {s with heap:=h'}):wpAny (model prog w) A (Builtin.«zip.__next__» ⟨[.ref z],[]⟩) Q E s:=by
 show wpAny (model prog w) _ (field (.ref z) 2>>=_) _ _ _;refine aA (fg d rfl (x:= .bool false) rfl ?_);show wpAny (model prog w) _ (field (.ref z) 3>>=_) _ _ _;refine aA (fg d rfl (x:= .ref TI) rfl ?_);refine aA (wpAny_seqItems l rfl ?_);show wpAny (model prog w) _ (Builtin.SmallTypes.ownedTupleIsFree (.ref z)>>=_) _ _ _;refine aA ?_;unfold Builtin.SmallTypes.ownedTupleIsFree;refine aA (fg d rfl (x:= .none) rfl (bB ?_));simp only[if_true];refine aA (wpAny_rule ?_);refine aA (fg d rfl (x:= .ref TO) rfl ?_);refine aA (wpAny_setField_rec d (by simp) λk1 g b1=>?_);replace g:IsZip k1 z TI TO .ellipsis:=g;refine aA ?_;simp only[List.zipIdx_cons,List.zipIdx_nil,List.forIn_cons,List.forIn_nil];refine aA (aA (wpAny_onRaise ?_));show wpAny (model prog w) _ (Builtin.SmallTypes.nextOf (.ref i1)>>=_) _ _ _;refine aA (D1.done _ _ _ (D1.frame _ _ _ s1 λq hq o e=>(b1.2 q λy=>h.zf1 (y▸hq)).trans e) λk2 e b2 n=>?_);obtain⟨oe,f,i⟩:=n;have j:IsZip k2 z TI TO .ellipsis:=b2 _ _ h.i1z.symm g;have p:e≠z:=λq=>by subst q;rw[j]at f;cases f;simp at i
 refine wpAny_setField_rec j (by simp) λk3 _ b3=>m k3 e (λc o c1 _ k _ q=>b3.extBut _ _ c1 (b2 _ _ k (b1.extBut _ _ c1 q))) ⟨oe,b3.extBut _ _ p f,i⟩
theorem L4{i:Nat}{a b:Value}{Q:Option Value->Shared->Prop}(D1:Draws prog w A.in1 i1 f1 n1 P1 S1)(e:Draws prog w A.in1 i2 f2 n2 P2 S2)(f:pB z TI TO i1 i2 f1 f2)(d:IsZip s.heap z TI TO .none)(g:IsPair s.heap TI (.ref i1) (.ref i2))(h:IsPair s.heap TO a b)(s1:S1 i s.heap)(s2:S2 i s.heap)(k:i<n1)(l:i<n2)(j:∀x y h' tk,P1 i x->P2 i y->IsZip h' z TI TO (rawInt s.heap.objs.size)->IsPair h' TO x y->S1 (i+1) h'->S2 (i+1) h'->IsPair h' s.heap.objs.size x y->(∀c o,c≠z->c≠TO->c≠i1->c≠i2->s.heap.get? c=some o->h'.get? c=some o)->Q (some (.ref s.heap.objs.size)) {s with heap:=h',toks:=tk}):wpAny (model prog w) A (pyNext (.ref z)) Q E s:=by have ty:s.TypeIs (.ref z) "zip":=⟨_,d,rfl⟩;unfold pyNext;refine aA (wpAny_attempt (wpAny_callSpecial?_slot (name:=Str.ofString "__next__") ty F.slot_zip_next (qO F.slot_zip_next ty F.entry_zip_next ?_ (F.args_zip_next_1 _))));exact MW D1 e f d g h s1 s2 k l λx y h' tk a1 a2 a3 a4 a5 a6 a7 a8=>bB (j x y h' tk a1 a2 a3 a4 a5 a6 a7 a8)
theorem LX{a b:Value}{Q:Option Value->Shared->Prop}(D1:Draws prog w A.in1 i1 f1 n1 P1 S1)(f:pB z TI TO i1 i2 f1 f2)(d:IsZip s.heap z TI TO .none)(g:IsPair s.heap TI (.ref i1) (.ref i2))(h:IsPair s.heap TO a b)(s1:S1 n1 s.heap)(i:∀h',(∀c o,c≠z->c≠TO->c≠i1->c≠i2->s.heap.get? c=some o->h'.get? c=some o)->Q none {s with heap:=h'}):wpAny (model prog w) A (pyNext (.ref z)) Q E s:=by have ty:s.TypeIs (.ref z) "zip":=⟨_,d,rfl⟩;unfold pyNext;refine aA (wpAny_attempt (wpAny_callSpecial?_slot (name:=Str.ofString "__next__") ty F.slot_zip_next (qO F.slot_zip_next ty F.entry_zip_next (Mb D1 f d g h s1 λh' e k j=>?_) (F.args_zip_next_1 _))));obtain⟨o,l,hc⟩:=j;refine aA (wpAny_isInstance (T:="StopIteration") (b:=true) ⟨o,l,hc⟩ isSubtype_stop (bB (i _ k)))
end
section
variable{prog:Program}{w:World}{A:Around}{E:Value->Shared->Prop}{s:Shared}
end
end L3
end
section
namespace L3
open PySem PySem.Spec PyProof.Rows L2
section
variable{X:Cx}{pins:List (Addr×Obj)}{σ:L2.St}{H:Hp}{s:Shared}{h':Heap}
theorem zW{t':Nat}{ch:List Addr}{T:Addr}{o:HO}(I:Inv X pins σ H s)(k:∀b ob,b∉ch->s.heap.get? b=some ob->h'.get? b=some ob)(hf:∀b∈ch,m8 X pins H b)(a:s.heap.objs.size<=T)(new:cI X.prog X.w (upd H T o) h' T o):Inv X pins σ (upd H T o) {s with heap:=h',toks:=t'}:=by
 have hn:H T=none:=I.b9.fresh a;have d:∀b u,H b=some u->b∉ch:=λb u e z=>by rw[(hf b z).1]at e;cases e
 refine I.step (g':=s.gens) (d':=s.drawn) (ch:=ch) (λb hb=>⟨(hf b hb).2.2.2.1,(hf b hb).2.1,(hf b hb).2.2.2.2.1,(hf b hb).2.2.2.2.2⟩) (λb ob _ _ hc e _=>k b ob hc e) (λb ob _ _ hc e _=>⟨ob.slots,k b ob hc e⟩) (λb ob _ e n=>by rw[aZ (eg (gK (bT e) a))];exact n) (λb ob hc e=>⟨ob,k b ob hc e⟩) (λb xs e=>by rw[aZ (aX e hn)];exact e) (λb ob u e=>by rw[aZ (aX e hn)];exact e) (λb ps e=>(by rw[aZ (aX e hn),e])) (λm hm=>?_) (λb u e=>?_) I.bare;·obtain⟨ob,es,ep,f,r⟩:=hm;exact⟨ob,es,ep,k _ ob (λz=>(hf _ z).2.1 rfl) f,r⟩
 ·by_cases hb:b=T;·subst hb;rw[ak]at e;cases e;exact new
  ·rw[aZ hb]at e;refine(I.b9 b u e).mP (λc v hc q=>k c v ?_ q) (λc q=>by rw[aZ (aX q hn)];exact q) λc xs q=>by rw[aZ (aX q hn)];exact q
   rcases hc with z|z;·rw[z];exact d b u e
   ·exact d c _ z
theorem JS{t':Nat}{ch:List Addr}(I:Inv X pins σ H s)(k:∀b ob,b∉ch->s.heap.get? b=some ob->h'.get? b=some ob)(hf:∀b∈ch,m8 X pins H b):Inv X pins σ H {s with heap:=h',toks:=t'}:=by
 have a:∀b u,H b=some u->b∉ch:=λb u e z=>by rw[(hf b z).1]at e;cases e
 refine I.step (g':=s.gens) (d':=s.drawn) (ch:=ch) (λb hb=>⟨(hf b hb).2.2.2.1,(hf b hb).2.1,(hf b hb).2.2.2.2.1,(hf b hb).2.2.2.2.2⟩) (λb ob _ _ hc e _=>k b ob hc e) (λb ob _ _ hc e _=>⟨ob.slots,k b ob hc e⟩) (λb ob _ e n=>n) (λb ob hc e=>⟨ob,k b ob hc e⟩) (λb xs e=>e) (λb ob u e=>e) (λb ps e=>(by rw[e])) (λm hm=>?_) (λb u e=>?_) I.bare;·obtain⟨ob,es,ep,d,r⟩:=hm;exact⟨ob,es,ep,k _ ob (λz=>(hf _ z).2.1 rfl) d,r⟩
 ·refine(I.b9 b u e).mP (λc v hc q=>k c v ?_ q) (λ_ q=>q) λ_ _ q=>q;rcases hc with z|z;·rw[z];exact a b u e
  ·exact a c _ z
end
structure afT(a b z TI TO i1 i2:Addr)(i:Nat)(h:Heap):Prop where
 z:IsZip h z TI TO .none
 TI:IsPair h TI (.ref i1) (.ref i2)
 TO:∃u v,IsPair h TO u v
 i1:h.IsTupleIter i1 a i
 i2:h.IsTupleIter i2 b i
section
variable{X:Cx}
theorem fV:iP X (.builtin "isinstance") (λxs H Q=>∃x t n b,xs=[x, .ty n]/\lO X.K H x t/\PySem.W.kitOne X.K t (.type n)=some b/\Q (.bl b) H):=by intro pins s σ H xs us Q I r h;obtain⟨x,t,n,b,rfl,ty,e,q⟩:=h;obtain⟨u,v,rfl,a,c⟩:=r.two;obtain rfl:v=Value.type n:=c;exact Np I a ty e λtk=>⟨.bl b,H,I.tok tk,rfl,q⟩
end
structure lZ(K:PySem.W.Frag)(a:Addr)(D:List (Str×V)):Prop where
 sys:(a==sysModules)=false
 ex:∃o es ep,K.lookup a=some o/\o.ExactDict/\o.data= .dict es ep/\KTD.Rows RelV es.toList D
section
variable{X:Cx}{pins:List (Addr×Obj)}{σ:L2.St}{H:Hp}{s:Shared}{a:Addr}{D:List (Str×V)}{k:Str}{tk:Tok}{A:Around}{E:Value->Shared->Prop}
theorem lZ.typeIs(T:lZ X.K a D)(I:Inv X pins σ H s):s.TypeIs (.ref a) "dict":=let⟨o,_,_,e,x,_⟩:=T.ex;⟨o,I.kI a o e,x.1⟩
theorem C2{Q:Option Value->Shared->Prop}(T:lZ X.K a D)(I:Inv X pins σ H s)(h1:∀v u,KTD.datumAt k D=some v->RelV v u->Q (some u) {s with toks:=s.toks+1})(h2:KTD.datumAt k D=none->Q none {s with toks:=s.toks+1}):wpAny (model X.prog X.w) A (dictGet a (.str k tk)) Q E s:=by
 obtain⟨_,o,es,ep,n,_,g,f⟩:=T;have h:=I.kI a o n;unfold dictGet;try with_reducible refine jU ?_
 have j:(es.all λe=>isExactStrKey e.key)=true:=by obtain⟨l⟩:=es;simpa using f.exact
 refine aA (wpAny_pyHash_str (aA (KTD.kt_dictFind_strs (s:={s with toks:=s.toks+1}) h g j ?_)));have b:Q (findBy (λk v=>v.isStr k) es k) {s with toks:=s.toks+1}:=by
  have m:findBy (λk v=>v.isStr k) es k=(es.toList.find? λe=>e.key.isStr k).map (·.val):=by obtain⟨l⟩:=es;simp[findBy]
  rw[m];cases c:KTD.datumAt k D with|some d=>obtain⟨v,q,p⟩:=f.find_some c;rw[q];exact h1 d v c p|none=>rw[f.find_none c];exact h2 c
 rw[findBy_of_findIdx?]at b;cases hi:es.findIdx? λe=>e.key.isStr k with|none=>rw[hi]at b;exact bB b|some i=>rw[hi]at b;exact aA (wpAny_dictEntries (s:={s with toks:=s.toks+1}) h g (bB b))
theorem O4{Q:Value->Shared->Prop}{v:V}(T:lZ X.K a D)(I:Inv X pins σ H s)(hd:KTD.datumAt k D=some v)(h:∀u,RelV v u->Q u {s with toks:=s.toks+1}):wpAny (model X.prog X.w) A (getItem (.ref a) (.str k tk)) Q E s:=by
 have ty:=T.typeIs I;unfold getItem;try with_reducible refine jU ?_
 refine aA (wpAny_sequenceKey ty (by decide) ?_);refine aA (wpAny_callSpecial?_slot (name:=Str.ofString "__getitem__") ty slot_dict_getitem (qO slot_dict_getitem ty entry_dict_getitem ?_ (args_dict_getitem _ _)));show wpAny (model X.prog X.w) _ (dictGet a (.str k tk)>>=_) _ _ s;refine aA (C2 T I (λb u e r=>?_) λhn=>?_);·rw[hd]at e;cases e;exact bB ⟨u,rfl,bB (h u r)⟩
 ·rw[hd]at hn;cases hn
end
section
variable{X:Cx}
noncomputable def aeV(K:PySem.W.Frag):R2:=λx y H Q=>∃a D k v,x= .ref a/\y= .str k/\lZ K a D/\KTD.datumAt k D=some v/\Q v H
theorem YC{o i:Expr}{m:Pos}{td ty:TE}(j:PE X o td)(hi:PE X i ty)(l:Z6 i):PE X (.Subscript o i m) (Yq (aeV X.K) td ty):=by intro pins s σ H Q I h;refine Jq PySem.F.slot_dict_getitem.lookup l (bX (j pins s σ H _ I h) λu s1⟨x,c,f,n,q1⟩=>bX (hi pins s1 σ c _ f q1) λw s2 q=>?_);obtain⟨y,d,b,p,a,D,k,v,ex,g,T,e,q2⟩:=q;subst ex g;cases n;obtain⟨t,rfl⟩:=p;exact⟨T.typeIs b,O4 T b e λu r=>⟨v,d,b.tok _,r,q2⟩⟩
end
end L3
end
section
namespace KM
open PySem
inductive D where|aW|bl(b:Bool)|int(i:Int)|str(x:Str)|tup(ds:List D)deriving Inhabited
mutual noncomputable def aC:D->Nat| .tup ds=>1+aL ds| .aW=>0| .bl _=>0| .int _=>0| .str _=>0 noncomputable def aL:List D->Nat|[]=>0|d::r=>aC d+aL r end
mutual noncomputable def depth:D->Nat| .tup ds=>1+aD ds| .aW=>0| .bl _=>0| .int _=>0| .str _=>0 noncomputable def aD:List D->Nat|[]=>0|d::r=>max (depth d) (aD r)end
noncomputable def isTup:D->Bool| .tup _=>true|_=>false
noncomputable def tk:D->List D| .tup ds=>ds.filter isTup|_=>[]
noncomputable def lv:Nat->List D->List D|0,l=>l|n+1,l=>lv n (l.flatMap tk)
theorem kX:∀l:List D,aL (l.filter isTup)=aL l|[]=>rfl|d::r=>by have a:=kX r;cases d<;>simp[isTup,List.filter_cons,aL,aC,a]
theorem lu:∀l:List D,aD (l.filter isTup)=aD l|[]=>rfl|d::r=>by have a:=lu r;cases d<;>simp[isTup,List.filter_cons,aD,depth,a]
theorem yg:∀l r:List D,aL (l++r)=aL l+aL r|[],r=>by simp[aL]|d::l,r=>by simp[aL,yg l r];lia
theorem zi:∀l r:List D,aD (l++r)=max (aD l) (aD r)|[],r=>by simp[aD]|d::l,r=>by simp only[List.cons_append,aD,zi l r];exact(Nat.max_assoc _ _ _).symm
theorem Oy:∀d:D,isTup d=true->aC d=1+aL (tk d)| .tup ds,_=>by simp[aC,tk,kX]
theorem Dr:∀d:D,isTup d=true->depth d=1+aD (tk d)| .tup ds,_=>by simp[depth,tk,lu]
theorem Tx(d:D):∀x∈tk d,isTup x=true:=by cases d<;>simp[tk]
theorem y0:∀l:List D,(∀x∈l,isTup x=true)->aL l=l.length+aL (l.flatMap tk)|[],_=>rfl|d::r,h=>by have h1:=y0 r λx a=>h x (dW _ a);have h2:=Oy d (h d d4);simp only[List.flatMap_cons,yg,aL,cF];lia
theorem lU:∀l:List D,(∀x∈l,isTup x=true)->l≠[]->aD l=1+aD (l.flatMap tk)|[],_,h=>(h rfl).elim|[d],h,_=>by have h2:=Dr d (h d d4);simp only[List.flatMap_cons,List.flatMap_nil,kS,aD];lia|d::e::r,h,_=>by have h1:=lU (e::r) (λx a=>h x (dW _ a)) (by simp);have h2:=Dr d (h d d4);rw[List.flatMap_cons,zi];have h3:aD (d::e::r)=max (depth d) (aD (e::r)):=rfl;lia
theorem oM(l:List D):∀x∈l.flatMap tk,isTup x=true:=by intro x a;obtain⟨d,_,h⟩:=List.mem_flatMap.mp a;exact Tx d x h
theorem PX:∀n,lv n []=[]|0=>rfl|n+1=>by rw[lv,List.flatMap_nil];exact PX n
theorem tY:∀n l,lv (n+1) l=(lv n l).flatMap tk|0,l=>rfl|n+1,l=>by rw[lv,tY n,<-lv]
theorem Kn:∀n l,(∀x∈l,isTup x=true)->∀x∈lv n l,isTup x=true|0,_,h=>h|n+1,l,_=>Kn n _ (oM l)
noncomputable def gR:Nat->List D->Nat|0,_=>0|n+1,l=>gR n l+(lv n l).length
theorem yn:∀n l,gR (n+1) l=l.length+gR n (l.flatMap tk)|0,l=>by simp[gR,lv]|n+1,l=>by have :=yn n l;simp only[gR]at this⊢;rw[show lv (n+1) l=lv n (l.flatMap tk)from rfl];lia
theorem lR:∀n l,(∀x∈l,isTup x=true)->aL l=gR n l+aL (lv n l)|0,l,_=>by simp[gR,lv]|n+1,l,h=>by have h1:=y0 l h;have h2:=lR n (l.flatMap tk) (oM l);rw[yn,show lv (n+1) l=lv n (l.flatMap tk)from rfl];lia
theorem yU:∀n l,(∀x∈l,isTup x=true)->(lv n l=[]↔aD l<=n)
 |0,l,h=>by
  cases l with
   |nil=>simp[lv,aD]
   |cons d r=>
    have :=lU (d::r) h (by simp);simp only[lv];constructor;·intro q;cases q
    ·intro q;lia
 |n+1,l,h=>by cases l with|nil=>simp[PX,aD]|cons d r=>have h1:=lU (d::r) h (by simp);have h2:=yU n ((d::r).flatMap tk) (oM _);rw[show lv (n+1) (d::r)=lv n ((d::r).flatMap tk)from rfl,h2];lia
theorem xZ(n:Nat)(l:List D)(h:∀x∈l,isTup x=true):gR n l<=aL l:=by have :=lR n l h;lia
theorem Mw(l:List D)(h:∀x∈l,isTup x=true):(gR 40 l<=600/\lv 40 l=[])↔(aL l<=600/\aD l<=40):=by
 rw[yU 40 l h];have e:=lR 40 l h;constructor;·rintro⟨h1,h2⟩;rw[(yU 40 l h).mpr h2]at e;simp only[aL]at e;exact⟨by lia,h2⟩
 ·rintro⟨h1,h2⟩;exact⟨by lia,h2⟩
end KM
end
section
namespace L3
open PySem PySem.Spec PyProof.Rows L2 KM
mutual/--v stands for d on the heap H -/noncomputable def Rep(H:Hp):D->V->Prop| .aW,v=>v= .aW| .bl b,v=>v= .bl b| .int i,v=>v= .int i| .str x,v=>v= .str x/\x.length<=1000| .tup ds,v=>∃a vs,v= .ref a/\H a=some (.tup vs)/\bz H ds vs noncomputable def bz(H:Hp):List D->List V->Prop|[],vs=>vs=[]|d::ds,vs=>∃v r,vs=v::r/\Rep H d v/\bz H ds r end
mutual theorem Rep.mono{H H':Hp}(h:aM H H'):∀{d:D}{v:V},Rep H d v->Rep H' d v| .aW,_,r=>r| .bl _,_,r=>r| .int _,_,r=>r| .str _,_,r=>r| .tup _,_,⟨a,vs,e,q,r⟩=>⟨a,vs,e,h _ _ q,bz.mono h r⟩theorem bz.mono{H H':Hp}(h:aM H H'):∀{ds:List D}{vs:List V},bz H ds vs->bz H' ds vs|[],_,r=>r|_::_,_,⟨v,r,e,q,t⟩=>⟨v,r,e,Rep.mono h q,bz.mono h t⟩end
theorem bz.length{H:Hp}:∀{ds:List D}{vs:List V},bz H ds vs->vs.length=ds.length|[],_,r=>by have r:_=[]:=r;rw[r];rfl|_::_,_,⟨v,r,e,q,t⟩=>by rw[e,cF,cF,bz.length t]
theorem bz.get{H:Hp}:∀{ds:List D}{vs:List V}{i:Nat}{d:D},bz H ds vs->ds[i]?=some d->∃v,vs[i]?=some v/\Rep H d v|[],_,_,_,_,e=>by simp at e|d::_,_,0,_,⟨v,r,e,q,t⟩,h=>by simp at h;subst h;exact⟨v,by rw[e];rfl,q⟩|_::ds,_,i+1,d,⟨v,r,e,q,t⟩,h=>by obtain⟨u,h1,h2⟩:=bz.get (i:=i) t (by simpa using h);exact⟨u,by rw[e];simpa using h1,h2⟩
theorem bz.get'{H:Hp}{ds:List D}{vs:List V}{i:Nat}{v:V}(r:bz H ds vs)(e:vs[i]?=some v):∃d,ds[i]?=some d/\Rep H d v:=by have hi:i<vs.length:=(List.getElem?_eq_some_iff.mp e).1;rw[r.length]at hi;obtain⟨u,h1,h2⟩:=r.get (d:=ds[i]) (i:=i) (by simp[hi]);rw[e]at h1;cases h1;exact⟨ds[i],by simp[hi],h2⟩
theorem bz.append{H:Hp}:∀{ds es:List D}{vs us:List V},bz H ds vs->bz H es us->bz H (ds++es) (vs++us)|[],_,_,_,r,q=>by have r:_=[]:=r;subst r;exact q|_::_,_,_,_,⟨v,r,e,p,t⟩,q=>by subst e;exact⟨v,r++_,rfl,p,bz.append t q⟩
theorem bz.one{H:Hp}{d:D}{v:V}(r:Rep H d v):bz H [d] [v]:=⟨v,[],rfl,r,rfl⟩
noncomputable def tyD:D->String| .aW=>"NoneType"| .bl _=>"bool"| .int _=>"int"| .str _=>"str"| .tup _=>"tuple"
theorem Rep.ty{K:PySem.W.Frag}{H:Hp}:∀{d:D}{v:V},Rep H d v->lO K H v (.type (tyD d))| .aW,_,r=>by cases(show _=V.aW from r);exact .aW| .bl b,_,r=>by cases(show _=V.bl b from r);exact .bl b| .int i,_,r=>by cases(show _=V.int i from r);exact .int i| .str x,_,r=>by cases(show _=V.str x from r.1);exact .str x| .tup _,_,⟨a,vs,e,q,_⟩=>by cases e;exact .tup q
noncomputable def aw:D->Bool| .str _=>true|_=>false
noncomputable def OC:D->Bool| .bl _=>true|_=>false
noncomputable def Ri:D->Bool| .bl _=>true| .int _=>true|_=>false
theorem Ub(K:PySem.W.Frag)(d:D):PySem.W.kitOne K (.type (tyD d)) (.type "tuple")=some (isTup d):=by cases d<;>rfl
theorem ZV(K:PySem.W.Frag)(d:D):PySem.W.kitOne K (.type (tyD d)) (.type "bool")=some (OC d):=by cases d<;>rfl
theorem Uk(K:PySem.W.Frag)(d:D):PySem.W.kitOne K (.type (tyD d)) (.type "int")=some (Ri d):=by cases d<;>rfl
theorem aq{H:Hp}{p:Addr}(h:H p=none)(o:HO):aM H (upd H p o):=λb u q=>by rw[aZ (aX q h)];exact q
end L3
end
section
namespace L3
open PySem PySem.Spec PyProof.Rows L2
noncomputable def afE(e:TE)(f th ts:TO):TE:=λσ H Q=>e σ H λx a=>f σ a λ_ b=>th σ b λ_ c=>ts σ c λst d=>∃z,x= .str z/\z.length<=sizeLine/\st≠some 0/\∀y:Str,y.length<=z.length->Q (.str y) d
theorem part_of{u:Value}{o:Option Int}(p:IsPart u o):∃q:Option (Int×Tok),u=partValue q/\q.map (·.1)=o:=by cases p with|none=>exact⟨none,rfl,rfl⟩|int i t=>exact⟨some (i,t),rfl,rfl⟩
theorem xQ{X:Cx}{e:Expr}{lo hi st:Option Expr}{j P:Pos}{r:TE}{w th ts:TO}(M:PE X e r)(hl:PO X lo w)(N:PO X hi th)(ht:PO X st ts)(hb:∀o i,∃ops,subscripted (.Slice lo hi st j) false o i=operate ops (getItem o i):=by intro o i;exact⟨_,rfl⟩):PE X (.Subscript e (.Slice lo hi st j) P) (afE r w th ts):=by
 intro pins s σ H Q I h;refine Subscript_ (bX (M pins s σ H _ I h) λv s1 m=>?_);obtain⟨x,A,D,S,q1⟩:=m;refine wpAny_Slice (bX (hl pins s1 σ A _ D q1) λY s2⟨l,B,E,pl,q2⟩=>bX (N pins s2 σ B _ E q2) λvu U⟨u,C,F,R,q3⟩=>bX (ht pins U σ C _ F q3) λZ a m=>?_);obtain⟨t,n,G,pt,z,e1,O,L,q⟩:=m;subst e1;obtain⟨tk,rfl⟩:=S;obtain⟨d,rfl,V⟩:=part_of pl;obtain⟨f,rfl,W⟩:=part_of R;obtain⟨c,rfl,K⟩:=part_of pt;have J:Inv X pins σ n {a with heap:=a.heap.push {cls:= .type "slice",data:= .fields #[partValue d,partValue f,partValue c]}}:=G.kept (t':=a.toks) λb ob q=>b_ _ q;have p:((c.map (·.1)).getD 1==0)=false:=by rw[K];cases t with|none=>rfl|some i=>simpa usingλz=>L (by rw[z])
 show wpAny (model X.prog X.w) X.A (subscriptTail e (.Slice lo hi st j) (.str z tk) (.ref a.heap.objs.size)) (EP X pins σ Q) X.xe _;obtain⟨ops,hb⟩:=hb (.str z tk) (.ref a.heap.objs.size);refine tail_any (ops:=ops) (T:="str") (typeIs_str _ _ _) PySem.F.slot_str_getitem.lookup (wpAny_getItem_str_slice (l:=d) (u:=f) (st:=c) ⟨_,gT _ rfl,rfl,rfl⟩ p ?_) hb;have fin:∀y:Str,y.length<=z.length->∀t' k,EP X pins σ Q (.str y t') {a with heap:=a.heap.push {cls:= .type "slice",data:= .fields #[partValue d,partValue f,partValue c]},toks:=k}:=λy g t' k=>⟨.str y,n,J.tok k,⟨t',rfl⟩,q y g⟩;unfold sliceMade;split;·exact fin z (bK _) _ _
 ·have g:(Str.mk ((slicePicked z d f c).filterMap (z.cps[·]?)).toArray).length<=z.length:=by show(List.filterMap _ (slicePicked z d f c)).toArray.size<=z.length;rw[dq];refine c8 (List.length_filterMap_le _ _) ?_;exact sliceIndicesBy_le _ _ _ (by simpa using p) z.length
  exact⟨c8 g O,fin _ g _ _⟩
noncomputable def aeA(t u:TS):TS:=λD σ H=>∃M:L2.St->Hp->Prop,t {D with nx:=M} σ H/\∀a H',M a H'->u D a H'
theorem i8{X:Cx}{st:Stmt}{rest:List Stmt}{t u:TS}(h1:PS X st t)(h2:iz X rest u):iz X (st::rest) (aeA t u):=by intro pins s σ H D I h;obtain⟨M,h,c⟩:=h;refine wpAny_execs_cons (bX (h1 pins s σ H {D with nx:=M} I h) λf s1 q=>?_);cases f with|next=>obtain⟨a,H',b,q⟩:=q;exact h2 pins s1 a H' D b (c a H' q)|ret v=>exact q|brk=>exact q|cont=>exact q
theorem gy{J:It}{g:TG}{tb:TS}{D:Ends}{σ:L2.St}{H:Hp}(n:Nat)(Pv:Nat->L2.St->Hp->Prop)(j:Pv 0 σ H)(k:∀i σ H,i<n->Pv i σ H->J.go i H/\∀x H',J.zH i H x H'->g x σ H' λc a=>tb {D with nx:=Pv (i+1),ct:=Pv (i+1),bk:=D.nx} c a)(hd:∀σ H,Pv n σ H->J.stop n H/\D.nx σ H):∃W:Nat->Nat->L2.St->Hp->Prop,(∃m,W 0 m σ H)/\∀i m σ H,W i m σ H->(J.stop i H/\D.nx σ H)\/(J.go i H/\∃N:L2.St->Hp->Prop,(∀b H',N b H'->∃e,e<m/\W (i+1) e b H')/\∀x H',J.zH i H x H'->g x σ H' λc a=>tb {D with nx:=N,ct:=N,bk:=D.nx} c a):=by
 refine⟨λi m σ H=>m=n-i/\i<=n/\Pv i σ H,⟨n,by simp,eB _,j⟩,?_⟩;rintro i m σ H⟨rfl,hi,p⟩;by_cases d:i<n;·obtain⟨f,h⟩:=k i σ H d p;exact .inr ⟨f,Pv (i+1),λb H' l=>⟨n-(i+1),by lia,rfl,d,l⟩,h⟩
 ·obtain rfl:i=n:=by lia
  exact .inl (hd σ H p)
def bx(p:Addr)(H H':Hp):Prop:=∀b o,b≠p->H b=some o->H' b=some o
theorem bx.trans{p:Addr}{H d e:Hp}(a:bx p H d)(b:bx p d e):bx p H e:=λc o n h=>b c o n (a c o n h)
theorem _root_.L2.aM.x{p:Addr}{H H':Hp}(a:aM H H'):bx p H H':=λc o _ h=>a c o h
theorem bx.upd{p:Addr}{H:Hp}(o:HO):bx p H (upd H p o):=λb u n h=>by rw[aZ n];exact h
mutual theorem Rep.gU{p:Addr}{H H':Hp}(h:bx p H H')(hp:∀vs,H p≠some (.tup vs)):∀{d:KM.D}{v:V},Rep H d v->Rep H' d v| .aW,_,r=>r| .bl _,_,r=>r| .int _,_,r=>r| .str _,_,r=>r| .tup _,_,⟨a,vs,e,q,r⟩=>⟨a,vs,e,h _ _ (λz=>hp vs (by rw[<-z];exact q)) q,bz.gU h hp r⟩theorem bz.gU{p:Addr}{H H':Hp}(h:bx p H H')(hp:∀vs,H p≠some (.tup vs)):∀{ds:List KM.D}{vs:List V},bz H ds vs->bz H' ds vs|[],_,r=>r|_::_,_,⟨v,r,e,q,t⟩=>⟨v,r,e,Rep.gU h hp q,bz.gU h hp t⟩end
section
variable{prog:Program}{w:World}{A:Around}{E:Value->Shared->Prop}{s:Shared}{d:Addr}{o:Obj}{es:Array DictEntry}{ep:Nat}{hsh:Int}
end
section
variable{X:Cx}{pins:List (Addr×Obj)}{σ:L2.St}{H:Hp}{s:Shared}{a:Addr}{D:List (Str×V)}{A:Around}{E:Value->Shared->Prop}
end
end L3
end
section
namespace L3
open PySem L2
section
variable{prog:Program}{w:World}{A:Around}{E:Value->Shared->Prop}{s:Shared}
theorem aaA{it t:Addr}{i:Nat}{d:Array Value}{x:Value}{Q:Value->Shared->Prop}(c:s.heap.IsListIter it t i)(gt:s.heap.IsList t d)(h:d[i]?=some x)(j:∀h',h'.IsListIter it t (i+1)->Heap.SameBut it s.heap h'->Q x {s with heap:=h'}):wpAny (model prog w) A (Builtin.SmallTypes.nextOf (.ref it)) Q E s:=by obtain⟨l,b,e,a⟩:=id c;obtain⟨m,g,_,k,f⟩:=gt;unfold Builtin.SmallTypes.nextOf;refine aA (wpAny_callSpecial?_slot (name:=Str.ofString "__next__") c.typeIs slot_listiter_next (qO slot_listiter_next c.typeIs entry_listiter_next ?_ (args_listiter_next _)));show wpAny (model prog w) _ (field (.ref it) 0>>=_) _ _ s;refine aA (fg b a (x:= .ref t) rfl ?_);show wpAny (model prog w) _ (if(Value.ref t==Value.none)=true then _ else _) _ _ s;rw[if_neg (show¬(Value.ref t==Value.none)=true from fQ)];show wpAny (model prog w) _ (field (.ref it) 1>>=_) _ _ s;refine aA (fg b a (x:= .int i 0) rfl ?_);show wpAny (model prog w) _ (seqItems? (.ref t)>>=_) _ _ s;refine aA (wpAny_seqItems g f ?_);simp only[Int.toNat_natCast,h];refine aA (wpAny_setField b a (by simp) (bB ⟨x,rfl,bB (j _ ?_ (Heap.SameBut.update ..))⟩));refine⟨_,CG _ b (Obj.isFreed_of_fields (Obj.data_mapFields a _)),(Obj.cls_mapFields ..).trans e,?_⟩;rw[Obj.data_mapFields a];simp[rawInt]
theorem F2{it t:Addr}{i:Nat}{f:Array Value}{Q:Value->Shared->Prop}(hb:HB s.heap A)(n:∀a,A.handled=some (.ref a)->a≠it)(d:s.heap.IsListIter it t i)(gt:s.heap.IsList t f)(j:f[i]?=none)(l:∀h' e,Heap.ExtBut it s.heap h'->(∃o,h'.get? e=some o/\o.cls= .type "StopIteration")->E (.ref e) {s with heap:=h'}):wpAny (model prog w) A (Builtin.SmallTypes.nextOf (.ref it)) Q E s:=by obtain⟨r,c,p,b⟩:=id d;obtain⟨u,h,_,q,g⟩:=gt;unfold Builtin.SmallTypes.nextOf;refine aA (wpAny_callSpecial?_slot (name:=Str.ofString "__next__") d.typeIs slot_listiter_next (qO slot_listiter_next d.typeIs entry_listiter_next ?_ (args_listiter_next _)));show wpAny (model prog w) _ (field (.ref it) 0>>=_) _ _ s;refine aA (fg c b (x:= .ref t) rfl ?_);show wpAny (model prog w) _ (if(Value.ref t==Value.none)=true then _ else _) _ _ s;rw[if_neg (show¬(Value.ref t==Value.none)=true from fQ)];show wpAny (model prog w) _ (field (.ref it) 1>>=_) _ _ s;refine aA (fg c b (x:= .int i 0) rfl ?_);show wpAny (model prog w) _ (seqItems? (.ref t)>>=_) _ _ s;refine aA (wpAny_seqItems h g ?_);simp only[Int.toNat_natCast,j];refine aA (wpAny_rule (aA (wpAny_setField c b (by simp) ?_)));exact kA (A:=A.in1) (hb.upd n) λh' e k m=>l h' e (Bj k) m
end
theorem iG{prog:Program}{w:World}{A:Around}(it t:Addr)(ne:t≠it)(e:∀a,A.handled=some (.ref a)->a≠it)(c:Array Value):Draws prog w A it (it::t::lS A) c.size (λi v=>c[i]?=some v) (λi h=>h.IsListIter it t i/\h.IsList t c/\HB h A)where
 live:=λ_ _ st=>let⟨o,n,_⟩:=st.1;⟨o,n⟩;frame:=λi h h' st d=>by obtain⟨⟨f,e1,p⟩,⟨g,e2,q⟩,hb⟩:=st;exact⟨⟨f,d it (by simp) f e1,p⟩,⟨g,d t (by simp) g e2,q⟩,hb.frame λb hb=>d b (by simp[hb])⟩
 item:=λi s Q E hi st m=>by refine aaA st.1 st.2.1 (x:=c[i]) (by simp[hi]) λh' k1 k2=>?_;exact m _ h' s.toks (by simp[hi]) ⟨k1,st.2.1.extBut k2.extBut ne,st.2.2.mono λa o j k=>k2.extBut a o (e a j) k⟩ k2
 done:=λs Q E st l=>F2 st.2.2 e st.1 st.2.1 (by simp) l
noncomputable abbrev zl1(h:Heap)(a:Addr):Heap:=h.push {cls:= .type "list_iterator",data:= .fields #[.ref a, .int 0 0]}
noncomputable abbrev zl2(h:Heap)(a b:Addr):Heap:=(zl1 h a).push {cls:= .type "list_iterator",data:= .fields #[.ref b, .int 0 0]}
noncomputable abbrev zl3(h:Heap)(a b:Addr):Heap:=(zl2 h a b).push {cls:= .type "tuple",data:= .seq #[.ref h.objs.size, .ref (zl1 h a).objs.size]}
noncomputable abbrev zl4(h:Heap)(a b:Addr):Heap:=(zl3 h a b).push {cls:= .type "tuple",data:= .seq #[.none, .none]}
noncomputable abbrev zl5(h:Heap)(a b:Addr):Heap:=(zl4 h a b).push {cls:= .type "zip",data:= .fields #[.none, .bool false, .bool false, .ref (zl2 h a b).objs.size, .ref (zl3 h a b).objs.size]}
theorem FQ(a b:Addr)(xs c:Array Value):Meets (Builtin.«zip.__new__» ⟨[.type "zip", .ref a, .ref b],[]⟩) (λ_ R s=>s.heap.IsList a xs/\s.heap.IsList b c/\R (.ok (.ret (.ref (zl4 s.heap a b).objs.size))) {s with heap:=zl5 s.heap a b}):= .of_wp λprog w A R s h=>by obtain⟨hp,g,d,tk,os⟩:=s;obtain⟨k1,k2,h⟩:=h;have e:=sub_zip;have t1:Heap.IsList (Shared.heap ⟨hp,g,d,tk,os⟩) a xs:=k1;have t2:Heap.IsList (Shared.heap ⟨hp.push {cls:= .type "list_iterator",data:= .fields #[.ref a, .int 0 0]},g,d,tk,os⟩) b c:=Heap.IsList.push k2 _;wp_walk using wpAny_pyIter_list t1,wpAny_pyIter_list t2;exact⟨_,rfl,h⟩
section
variable{prog:Program}{w:World}{A:Around}{E:Value->Shared->Prop}{s:Shared}
theorem ML{a b:Addr}{xs g:Array Value}{Q:Value->Shared->Prop}(k1:s.heap.IsList a xs)(k2:s.heap.IsList b g)(h:∀h',IsZip h' (s.heap.objs.size+4) (s.heap.objs.size+2) (s.heap.objs.size+3) .none->IsPair h' (s.heap.objs.size+2) (.ref s.heap.objs.size) (.ref (s.heap.objs.size+1))->IsPair h' (s.heap.objs.size+3) .none .none->h'.IsListIter s.heap.objs.size a 0->h'.IsListIter (s.heap.objs.size+1) b 0->(∀c o,s.heap.get? c=some o->h'.get? c=some o)->Q (.ref (s.heap.objs.size+4)) {s with heap:=h'}):wpAny (model prog w) A (call (.type "zip") [.ref a, .ref b]) Q E s:=by
 refine callType_new F.called_zip (by decide) (F.typeCall_zip_2 _ _) (F.newCall_zip_2 _ _) (λobj=>F.args_object_init_3 obj _ _) F.entry_zip_new (FQ a b xs g) ⟨k1,k2,?_⟩;have e1:(zl1 s.heap a).objs.size=s.heap.objs.size+1:=Heap.size_push ..;have e2:(zl2 s.heap a b).objs.size=s.heap.objs.size+2:=by rw[Heap.size_push,e1]
 have e3:(zl3 s.heap a b).objs.size=s.heap.objs.size+3:=by rw[Heap.size_push,e2]
 have e4:(zl4 s.heap a b).objs.size=s.heap.objs.size+4:=by rw[Heap.size_push,e3]
 have p5:(zl5 s.heap a b).get? (zl4 s.heap a b).objs.size=some _:=gT _ rfl;have f:(zl5 s.heap a b).get? (zl3 s.heap a b).objs.size=some _:=b_ _ (gT _ rfl);have e:(zl5 s.heap a b).get? (zl2 s.heap a b).objs.size=some _:=b_ _ (b_ _ (gT _ rfl));have d:(zl5 s.heap a b).get? (zl1 s.heap a).objs.size=some _:=b_ _ (b_ _ (b_ _ (gT _ rfl)));have i:(zl5 s.heap a b).get? s.heap.objs.size=some _:=b_ _ (b_ _ (b_ _ (b_ _ (gT _ rfl))));show _/\_;rw[e2,e3,e4]at p5;rw[e1,e2]at e;rw[e3]at f;rw[e1]at d;rw[e4];refine⟨⟨_,p5,rfl⟩,h _ p5 e f ⟨_,i,rfl,rfl⟩ ⟨_,d,rfl,rfl⟩ λc o q=>?_⟩;exact b_ _ (b_ _ (b_ _ (b_ _ (b_ _ q))))
end
end L3
end
section
namespace L3
open PySem PySem.Spec PyProof.Rows L2
theorem oQ{X:Cx}{pins:List (Addr×Obj)}{σ:L2.St}{H:Hp}{s:Shared}{a d:Addr}{xs:List V}(I:Inv X pins σ H s)(q:bH X.K H a xs)(f:m8 X pins H d):a≠d:=λz=>by
 subst z;rcases q with(q|⟨o,q⟩)|⟨o,_,_,q,_⟩;·rw[f.1]at q;cases q
 ·rw[f.1]at q;cases q
 ·have e:=I.ok.mod.Mt a o q;rcases f.2.2.2.1 with z|z;·exact I.ok.zq a o e z
  ·exact absurd (gK (bT e) I.ok.FD) (Nat.not_lt.mpr z)
noncomputable def adz(K:PySem.W.Frag)(a b:Addr):It:=⟨λi H=>∃xs c x y,bH K H a xs/\bH K H b c/\xs[i]?=some x/\c[i]?=some y,λi H v H'=>∃p x y,v= .ref p/\H p=none/\H'=upd H p (.tup [x,y])/\∀xs c,bH K H a xs->bH K H b c->xs[i]?=some x/\c[i]?=some y,λi H=>∃xs c,bH K H a xs/\bH K H b c/\xs.length=i⟩
structure adC(a b z TI TO i1 i2:Addr)(i:Nat)(h:Heap):Prop where
 z:IsZip h z TI TO .none
 TI:IsPair h TI (.ref i1) (.ref i2)
 TO:∃u v,IsPair h TO u v
 i1:h.IsListIter i1 a i
 i2:h.IsListIter i2 b i
theorem LZ{P:Program}{w:World}{K:PySem.W.Frag}{es:List Expr}{k:Nat}{pos:Pos}(a b n:Nat):Turn P w K (.Tuple es k pos) (adz K a b) [n+4,n+2,n+3,n,n+1] (n+4) (adC a b (n+4) (n+2) (n+3) n (n+1))where
 mem:=by simp
 obj:=λi h st c hc=>by
  simp only[gF,jf,or_false]at hc;obtain⟨r,e1,_,d1⟩:=st.i1;obtain⟨J,e2,_,d2⟩:=st.i2;obtain⟨u,v,m⟩:=st.TO;rcases hc with rfl|rfl|rfl|rfl|rfl;·exact⟨_,st.z,λv q=>by cases q⟩
  ·exact⟨_,st.TI,λv q=>by cases q⟩
  ·exact⟨_,m,λv q=>by cases q⟩
  ·exact⟨r,e1,λv q=>by rw[d1]at q;cases q⟩
  ·exact⟨J,e2,λv q=>by rw[d2]at q;cases q⟩
 keep:=λi h h' st kp=>by obtain⟨r,e1,r1⟩:=st.i1;obtain⟨J,e2,r2⟩:=st.i2;obtain⟨u,v,m⟩:=st.TO;exact⟨kp _ (by simp) _ st.z,kp _ (by simp) _ st.TI,⟨u,v,kp _ (by simp) _ m⟩,⟨r,kp _ (by simp) _ e1,r1⟩,⟨J,kp _ (by simp) _ e2,r2⟩⟩
 item:=by
  intro X C hw B hc i pins s σ H E I hf st D;subst C hw B;obtain⟨xs,ys,x,y,q1,q2,U,V⟩:=D;obtain⟨p,M,L,_⟩:=I.list q1;obtain⟨F,rv2,p2,_⟩:=I.list q2;obtain⟨N,R,ru1⟩:=M.get U;obtain⟨O,S,ru2⟩:=rv2.get V;obtain⟨u,v,m⟩:=st.TO;have W:=bT st.z;have l1:i<p.toArray.size:=by rw[dq];exact(List.getElem?_eq_some_iff.mp R).1
  have l2:i<F.toArray.size:=by rw[dq];exact(List.getElem?_eq_some_iff.mp S).1
  have g:∀d∈[n+4,n+2,n+3,n,n+1],a≠d:=λd hd=>oQ I q1 (hf d hd);have l:∀d∈[n+4,n+2,n+3,n,n+1],b≠d:=λd hd=>oQ I q2 (hf d hd);have j:pB (n+4) (n+2) (n+3) n (n+1) (n::a::lS X.A.in1) ((n+1)::b::lS X.A.in1):=by have G:∀d∈[n+4,n+2,n+3,n,n+1],d∉lS X.A.in1:=λd hd z=>I.SG hc (hf d hd).2.2.2.1 (hf d hd).2.2.2.2.2 d (oj z) rfl;have a1:=g (n+4) (by simp);have a2:=g (n+3) (by simp);have a3:=g (n+1) (by simp);have b1:=l (n+4) (by simp);have b2:=l (n+3) (by simp);have b3:=l n (by simp);constructor<;>(try simp only[gF,not_or])<;>first|lia|exact⟨by lia,by lia,G _ (by simp)⟩
  have t:∀d∈[n+4,n+2,n+3,n,n+1],∀a,X.A.in1.handled=some (.ref a)->a≠d:=λd hd=>I.SG hc (hf d hd).2.2.2.1 (hf d hd).2.2.2.2.2;refine L4 (iG n a (g n (by simp)) (t n (by simp)) p.toArray) (iG (n+1) b (l (n+1) (by simp)) (t (n+1) (by simp)) F.toArray) j st.z st.TI m ⟨st.i1,L.isList,I.hb hc⟩ ⟨st.i2,p2.isList,I.hb hc⟩ l1 l2 λY Z h1 tk e1 e2 z1 r s1 s2 pr kp=>?_;have e1:p.toArray[i]?=some Y:=e1;have e2:F.toArray[i]?=some Z:=e2;have ex:N=Y:=by rw[List.getElem?_toArray,R]at e1;exact Option.some.inj e1
  have ey:O=Z:=by rw[List.getElem?_toArray,S]at e2;exact Option.some.inj e2
  subst ex ey;refine⟨_,rfl,wpAny_letOwnedTupleGo_zip (s:={s with heap:=h1,toks:=tk}) z1 λh2 z2 sb=>?_⟩;have lt:∀d∈[n+4,n+2,n+3,n,n+1],d<s.heap.objs.size:=λd hd=>by
   have :d<=n+4:=by simp at hd;lia
   exact Nat.lt_of_le_of_lt this W
  have up:∀c o,c≠n+4->h1.get? c=some o->h2.get? c=some o:=λc o f e=>(sb.2 c f).trans e;have prT:h2.get? s.heap.objs.size=some {cls:= .type "tuple",data:= .seq #[N,O]}:=up _ _ (Nat.ne_of_gt W) pr;refine⟨.ref s.heap.objs.size,_,zW (s:=s) (h':=h2) (t':=tk) (ch:=[n+4,n+3,n,n+1]) (T:=s.heap.objs.size) (o:= .tup [x,y]) I (λc o f e=>?_) (λd hd=>hf d (by simp only[gF,jf,or_false]at hd⊢;rcases hd with z|z|z|z<;>simp[z])) (bK _) ?_,rfl,⟨_,x,y,rfl,I.b9.fresh (bK _),rfl,λxs' ys' a1 a2=>?_⟩,?_,λd hd=>?_⟩;·simp only[gF,jf,or_false,not_or]at f;exact up c o f.1 (kp c o f.1 f.2.1 f.2.2.1 f.2.2.2 e)
  ·exact⟨(cN rfl),[N,O], .cons ru1 (.cons ru2 .nil),⟨_,prT,rfl,_,rfl⟩⟩
  ·rw[I.mw a1 q1,I.mw a2 q2];exact⟨U,V⟩
  ·obtain⟨⟨oa,ea,ra⟩,_⟩:=s1;obtain⟨⟨ob,eb,rb⟩,_⟩:=s2;refine⟨z2,up _ _ j.TIz (kp _ _ j.TIz j.TITO j.TI1 j.TI2 st.TI),⟨_,_,up _ _ (by lia) r⟩,⟨oa,up _ _ (by lia) ea,ra⟩,⟨ob,up _ _ (by lia) eb,rb⟩⟩
  ·rw[aZ (eg (lt d hd))];exact(hf d hd).1
 done:=by
  intro X C hw B hc i pins s σ H E I hf st D;subst C hw B;obtain⟨xs,ys,q1,q2,hl⟩:=D;obtain⟨p,M,L,_⟩:=I.list q1;obtain⟨u,v,m⟩:=st.TO;have g:∀d∈[n+4,n+2,n+3,n,n+1],a≠d:=λd hd=>oQ I q1 (hf d hd);have l:∀d∈[n+4,n+2,n+3,n,n+1],b≠d:=λd hd=>oQ I q2 (hf d hd);have j:pB (n+4) (n+2) (n+3) n (n+1) (n::a::lS X.A.in1) ((n+1)::b::lS X.A.in1):=by have G:∀d∈[n+4,n+2,n+3,n,n+1],d∉lS X.A.in1:=λd hd z=>I.SG hc (hf d hd).2.2.2.1 (hf d hd).2.2.2.2.2 d (oj z) rfl;have a1:=g (n+4) (by simp);have a2:=g (n+3) (by simp);have a3:=g (n+1) (by simp);have b1:=l (n+4) (by simp);have b2:=l (n+3) (by simp);have b3:=l n (by simp);constructor<;>(try simp only[gF,not_or])<;>first|lia|exact⟨by lia,by lia,G _ (by simp)⟩
  have hi:p.toArray.size=i:=by rw[dq,<-M.length];exact hl
  subst hi;have t:∀d∈[n+4,n+2,n+3,n,n+1],∀a,X.A.in1.handled=some (.ref a)->a≠d:=λd hd=>I.SG hc (hf d hd).2.2.2.1 (hf d hd).2.2.2.2.2;refine LX (iG n a (g n (by simp)) (t n (by simp)) p.toArray) j st.z st.TI m ⟨st.i1,L.isList,I.hb hc⟩ λh1 kp=>⟨rfl,?_⟩;refine JS (t':=s.toks) (ch:=[n+4,n+3,n,n+1]) I (λc o f e=>?_) λd hd=>hf d (by simp only[gF,jf,or_false]at hd⊢;rcases hd with z|z|z|z<;>simp[z]);simp only[gF,jf,or_false,not_or]at f;exact kp c o f.1 f.2.1 f.2.2.1 f.2.2.2 e
 self:=λA i s Q E st h=>wpAny_pyIter_zip st.z h
noncomputable def aca(K:PySem.W.Frag)(d:TA):TI:=λσ H R=>d σ H λvs c=>∃a b xs e,vs=[.ref a, .ref b]/\bH K c a xs/\bH K c b e/\R (adz K a b) c
theorem SY{X:Cx}{es:List Expr}{k:Nat}{B:Pos}{a b:Expr}{j:TA}{p i:Pos}(n:Gl X "zip")(hm:X.mg "zip"=none)(ha:PA X [a,b] j)(o:starEach [a,b] X.env=[(false,eval a X.env),(false,eval b X.env)]:=by rfl)(g:starEach [b] X.env=[(false,eval b X.env)]:=by rfl):PI X (.Tuple es k B) (.Call (.Name "zip" p) [a,b] [] i) (aca X.K j):=by
 intro pins s σ H R I h;refine Call_ (lT I n hm boot_zip (PyProof.Rows.callWith_type1 (bX (ha i pins s σ H _ I h) λus s1⟨vs,f,c,v,q1⟩=>?_) (by rw[o,g]) (by rw[g];rfl)));obtain⟨a1,b1,xs,K,e,k1,k2,q⟩:=q1;subst e;obtain⟨G,J,rfl,w,x⟩:=Vals.two v;cases w;cases x;obtain⟨C,E,t,_⟩:=c.list k1;obtain⟨D,F,u,_⟩:=c.list k2;refine ML t.isList u.isList λh1 l t1 r y A kp=>?_;refine wpAny_pyIter_zip (s:={s1 with heap:=h1}) l ?_;have m:Inv X pins σ f {s1 with heap:=h1}:=c.kept (t':=s1.toks) kp;refine⟨_,_,_,_,f,rfl,m,LZ a1 b1 s1.heap.objs.size,⟨l,t1,⟨_,_,r⟩,y,A⟩,λd hd=>?_,q⟩;have :s1.heap.objs.size<=d:=by simp only[gF,jf,or_false]at hd;rcases hd with z|z|z|z|z<;>rw[z]<;>first|exact Nat.le_add_right _ _|exact bK _
 exact c.QM this (c.b9.fresh this)
theorem yX:bootBuiltins "tuple"=some (.type "tuple"):=by decide+kernel
theorem G2:bootBuiltins "int"=some (.type "int"):=by decide+kernel
theorem T7:bootBuiltins "bool"=some (.type "bool"):=by decide+kernel
theorem wR:bootBuiltins "list"=some (.type "list"):=by decide+kernel
theorem eG:bootBuiltins "len"=some (.builtin "len"):=by decide+kernel
theorem bP:bootBuiltins "isinstance"=some (.builtin "isinstance"):=by decide+kernel
theorem CJ:bootBuiltins "max"=some (.builtin "max"):=by decide+kernel
def Df(K:PySem.W.Frag)(mg:Str->Option Value)(x:Str)(st:Stmt)(ps:List Str):Prop:=∃f fd,WW K x x st f fd/\mg x=some (.ref f)/\Binds K fd ps []
noncomputable def bp(P:Program)(w:World)(K:PySem.W.Frag)(mg:Str->Option Value)(CX:oJ)(x:Str)(k:Nat)(ps:List Str)(sp:Sp):Prop:=∃f fd,(∀base,oN P w K mg base CX k f fd ps sp)/\mg x=some (.ref f)/\PySem.W.keepIn K (.ref f)=true/\Binds K fd ps []
section
variable{P:Program}{w:World}{K:PySem.W.Frag}{mg:Str->Option Value}
theorem Df.ok{x:Str}{st:Stmt}{N ps:List Str}{k:Nat}{sp:Sp}(D:Df K mg x st ps)(S:aT N ps (ar st))(len:∀vs H Q E,sp vs H Q E->vs.length=ps.length)(a:∀(base:Heap)(f:Addr)(cS:Value)(A:Around)(outer:List Env)(s:Shared)(H:Hp)(vs:List V)(Q:VK)(E:XK),da k (A.deeper (envOfC x (ar st) s.heap.objs.size f cS))->sp vs H Q E->∃t,iz (fh bE P w K mg base N x (ar st) f cS A outer s H E).QS (cW st) t/\t {nx:=λ_ H'=>Q .aW H',rt:=Q} (start N vs) H):bp P w K mg bE x (k+1) ps sp:=by obtain⟨f,fd,F,m,b⟩:=D;exact⟨f,fd,λbase=>F.ok S len (a base f),m,F.kp,b⟩
theorem bp.mono{CX:oJ}{x:Str}{j k:Nat}{ps:List Str}{sp:Sp}(F:bp P w K mg CX x j ps sp)(h:j<=k):bp P w K mg CX x k ps sp:=by obtain⟨f,fd,F,r⟩:=F;exact⟨f,fd,λbase=>(F base).mono h,r⟩
theorem bp.never{x:Str}{st:Stmt}{ps:List Str}{sp:Sp}{k:Nat}{CX:oJ}(D:Df K mg x st ps)(no:∀vs H Q E,¬sp vs H Q E):bp P w K mg CX x k ps sp:=by obtain⟨f,fd,F,m,b⟩:=D;exact⟨f,fd,λbase=>⟨λvs H Q E h=>absurd h (no vs H Q E),λA outer s H args us vs Q E _ _ _ _ h=>absurd h (no vs H Q E)⟩,m,F.kp,b⟩
end
noncomputable def zu(h:Heap)(H:Hp)(fs:List Addr):Heap:=PySem.W.hideAll (B9 h H) fs
theorem ko{h:Heap}{H:Hp}{fs:List Addr}{b:Addr}{o:Obj}(e:h.get? b=some o)(n:H b=none)(hf:b∉fs):(zu h H fs).get? b=some o:=PySem.W.hideAll_get _ (mB e n) hf
theorem Uo{h:Heap}{H:Hp}{fs:List Addr}{b:Addr}{o:Obj}(e:(zu h H fs).get? b=some o):h.get? b=some o/\H b=none:=LI (PySem.W.of_hideAll fs e)
theorem Mm(h:Heap)(H:Hp)(fs:List Addr):(zu h H fs).objs.size=h.objs.size:=(PySem.W.hideAll_size _ _).trans (Ab h H)
theorem nU{h B a:Heap}:∀{l:List Env},h.FunFrames B l->(∀L∈jQ l,a.get? L=none)->h.FunFrames a l|[],_,_=>trivial|env::l,⟨c,⟨L,o,hf,_,d,hd⟩,e⟩,hn=>⟨c,⟨L,o,hf,hn L (by unfold jQ;rw[CC,hf];exact d4),d,hd⟩,nU e λb hb=>hn b (by unfold jQ at hb⊢;rw[CC,hf];exact dW _ hb)⟩
theorem O9{X:Cx}{pins:List (Addr×Obj)}{σ:L2.St}{H:Hp}{s:Shared}(I:Inv X pins σ H s)(hc:X.calm=true):Fi X.prog X.w X.K X.mg (zu s.heap H (jQ X.stack)) X.A X.stack s H:=by
 have d:∀b o,X.base.get? b=some o->b∉jQ X.stack:=λb o e z=>by
  rcases List.mem_cons.mp (I.gD b z)with z|z;·have :=bT e;rw[z]at this;exact absurd this (Nat.not_lt.mpr (c8 I.ok.FD I.ok.above))
  ·exact I.ok.X3 e z
 have up:∀b o,X.base.get? b=some o->(zu s.heap H (jQ X.stack)).get? b=some o:=λb o e=>ko (I.bs b o e).1 (I.bs b o e).2 (d b o e);obtain⟨mb,b1,b2⟩:=I.ok.mod.blt;refine⟨I.ok.frames,⟨I.ok.mod.Mt.keeps up,I.ok.mod.glob.keeps up,⟨mb,b1.keeps up,b2⟩,I.ok.mod.nolimit.keeps up,I.ok.mod.bm.keeps up⟩,λb o e=>Uo e,Nat.le_of_eq (Mm _ _ _),nU I.stack λL c=>PySem.W.hideAll_none _ c,I.BY,I.b9,I.bare,?_⟩;rcases I.ok.hd hc with h|⟨a,oe,vs,e1,e2,e3⟩;·exact .inl h
 ·refine .inr ⟨a,oe,vs,e1,?_,e3⟩;rcases e2 with e2|e2;·exact up a oe e2
  ·obtain⟨q1,q2,q3,q4,_⟩:=I.pin (a,oe) (qP _ e2);refine ko q1 q2 λz=>?_;rcases List.mem_cons.mp (I.gD a z)with z|z;·exact q3 z
   ·exact q4 z
theorem HR{X:Cx}{CX:oJ}{k:Nat}{f:Addr}{fd:FuncData}{ps:List Str}{sp:Sp}{E:XK}{pins:List (Addr×Obj)}{σ:L2.St}{H:Hp}{s:Shared}{Q:VK}{us:List Value}{vs:List V}{a:Value->Shared->Prop}(F:∀base,oN X.prog X.w X.K X.mg base CX k f fd ps sp)(c:da k X.A)(hb:Binds X.K fd ps [])(I:Inv X pins σ H s)(hc:X.calm=true)(d:∀e s',CX X.A.handled X.stack H s E e s'->a e s')(r:Vals vs us)(h:sp vs H Q E):wpAny (model X.prog X.w) X.A (call (.ref f) us) (EP X pins σ Q) a s:=by
 have hl:us.length=ps.length:=by rw[<-r.length];exact(F (zu s.heap H (jQ X.stack))).len _ _ _ _ h
 have b:=hb s us I.kI (by rw[kS];exact hl);rw[kS]at b;refine wpAny_call (codeAny_mono ((F _).run X.A X.stack s H ⟨us,[]⟩ us vs Q E c (O9 I hc) b r h) λr s' hq=>?_);cases r with|error e=>exact d e s' hq|ok fl=>cases fl with|ret u=>exact I.after hq|next=>exact False.elim hq|brk=>exact False.elim hq|cont=>exact False.elim hq
theorem aJ{X:Cx}{CX:oJ}{x:Str}{k:Nat}{ps:List Str}{sp:Sp}{E:XK}{e:Expr}{es:List Expr}{t:TA}{p c:Pos}(F:bp X.prog X.w X.K X.mg CX x k ps sp)(n:da k X.A)(j:Gl X x)(o:Passes CX X E)(ha:PA X (e::es) t)(g:(x==("__debug__":Str))=false:=by decide)(i:starEach (e::es) X.env=(false,eval e X.env)::starEach es X.env:=by rfl)(l:(backTo c (starEach es X.env)).any (·.1)=false:=by rfl)(hc:X.calm=true:=by rfl):PE X (.Call (.Name x p) (e::es) [] c) (Wy sp [] E t):=by obtain⟨f,fd,F,m,kp,b⟩:=F;intro pins s σ H Q I h;refine zT (jg I j m ?_ g);refine PySem.W.callWith_K (h₀:=X.base) I.ok.mod.Mt kp (bX (ha c pins s σ H _ I h) λus s1⟨vs,d,a,r,q⟩=>⟨a.kI,?_⟩) i l;have q:sp (vs++[]) d Q E:=q;rw[kS]at q;exact HR F n b a hc (λe s' hc=>o pins σ d s1 e s' a hc) r q
theorem CO{X:Cx}{x:Str}{i:Int}{b:Pos}(hm:∃t,X.mg x=some (.int i t))(a:Gl X x)(hd:(x==("__debug__":Str))=false:=by decide):PE X (.Name x b) (tC (.int i)):=by obtain⟨t,hm⟩:=hm;exact K_ a hm ⟨t,rfl⟩ hd
theorem cL{X:Cx}{x:Str}{a:Addr}{c:Pos}(hm:X.mg x=some (.ref a))(b:Gl X x)(hd:(x==("__debug__":Str))=false:=by decide):PE X (.Name x c) (tC (.ref a)):=K_ b hm rfl hd
theorem z_{X:Cx}{x:Str}{n:String}{c:Pos}(hm:X.mg x=none)(b:bootBuiltins x=some (.type n))(a:Gl X x)(hn:x≠"__name__":=by decide)(hd:(x==("__debug__":Str))=false:=by decide):PE X (.Name x c) (tC (.ty n)):=Te a hm b rfl hn hd
noncomputable def Pn(outer:List (Str×NameKind))(N N':List Str)(own:Nat)(fr:List Nat)(scope:Scope):Bool:=scope.names.all (λy=>y.2 != .cell&&(y.2 != .local||scope.names.lookup y.1==some .local)&&(y.2 != .free||outer.lookup y.1==some .cell||outer.lookup y.1==some .free))&&decide (N'.length=own+fr.length)&&(List.range fr.length).all (λj=>match fr[j]? with
 |some i=>match N'[own+j]? with|some x=>N[i]?==some x&&scope.names.lookup x==some .free|none=>false
 |none=>true)
theorem lF{X:Cx}{N N':List Str}{own:Nat}{fr:List Nat}{sc scope:Scope}(g:X.env.scope=sc)(c:X.N=N)(f:scope.kind= .function)(h:Pn sc.names N N' own fr scope=true):nG X N' own fr scope:=by
 unfold Pn at h;simp only[cY,List.all_eq_true,decide_eq_true_eq]at h;obtain⟨⟨h1,h2⟩,h3⟩:=h;subst c;refine⟨f,λy a=>?_,λy a e=>?_,λy a e=>?_,h2,λj i e=>?_⟩;·simpa using(h1 y a).1.1
 ·have :=(h1 y a).1.2;simpa[e]using this
 ·have :=(h1 y a).2;unfold Env.kindOf;rw[g];simpa[e]using this
 ·have d:j<fr.length:=(List.getElem?_eq_some_iff.mp e).1;have :=h3 j (by simpa using d);rw[e]at this;cases b:N'[own+j]? with|none=>simp[b]at this|some x=>simp only[b,cY,beq_iff_eq]at this;exact⟨x,rfl,this.1,this.2⟩
theorem LP(a v:Value):argsOk "max" ⟨[a],[(Str.ofString "default",v)]⟩:=by unfold argsOk;kernel_rfl
section
variable{prog:Program}{w:World}{A:Around}{E:Value->Shared->Prop}{s:Shared}
theorem Eo{id:String}{b:Builtin}{args:List Value}{a:List (Str×Value)}{Q:Value->Shared->Prop}(g:builtinKind id=none)(hp:plainId id=true)(hb:entryFor table id=some b)(ha:argsOk id ⟨args,a⟩)(hc:wpAny (model prog w) A.in1 (b ⟨args,a⟩) (λfin s'=>match fin with| .done f=>(match(Except.ok f:Result)with| .ok (.ret v)=>Q v s'| .ok _=>False| .error e=>E e s')| .again c=>c.quiet=true/\codeAny (model prog w) A c (λr s'=>match r with| .ok (.ret v)=>Q v s'| .ok _=>False| .error e=>E e s') s') E s):wpAny (model prog w) A (call (.builtin id) args a) Q E s:=by refine wpAny_call (codeAny_call_builtin hp hb ?_);simp only[checkBuiltinCall,g];cases h:Manifest.signature? id with|none=>exact bB hc|some d=>simp only[argsOk,h]at ha;have h2:Bind.checkArgs id d ⟨args,a⟩=pure ():=ha;show wpAny _ A.in1 (Bind.checkArgs id d ⟨args,a⟩) _ _ s;rw[h2];exact bB hc
theorem UM{i j:Int}{t u:Tok}{Q:Value->Shared->Prop}(h:Q (.bool (decide (i>j))) s):wpAny (model prog w) A (richCompare .Gt (.int i t) (.int j u)) Q E s:=richCompare_gives (op:= .Gt) (typeIs_int s _ t) (typeIs_int s _ u) F.slot_int_gt F.entry_int_gt (F.args_int_gt_2 _ _) (gives_int_gt _ _ t u) (λx=>nomatch x) h
end
noncomputable def mxI(m x:Int):Int:=if x>m then x else m
noncomputable def maxD(ns:List Int)(d:Int):Int:=match ns with|[]=>d|a::r=>r.foldl mxI a
def YO(ns:List Int)(j:Nat)(l:Array Value):Prop:=(j=0/\l=#[])\/(0<j/\∃t,l=#[.int (maxD (ns.take j) 0) t, .int (maxD (ns.take j) 0) t])
theorem Mv{l:List Int}(x d:Int)(h:l≠[]):maxD (l++[x]) d=mxI (maxD l d) x:=by cases l with|nil=>exact absurd rfl h|cons a r=>simp[maxD,List.foldl_append]
section
variable{prog:Program}{w:World}{A:Around}{R:Result->Shared->Prop}{I:Addr}{fp wr:List Addr}{P:Nat->Value->Prop}{St:Nat->Heap->Prop}
theorem Mx{ns:List Int}{d:Value}(W:Walks prog w A.in1 I fp wr ns.length P St)(V:∀(i:Nat)v,P i v->∃x t,ns[i]?=some x/\v= .int x t)(S:Addr)(N:S∉fp):∀(k j:Nat)(s:Shared)(l:Array Value)(c:Nat),ns.length-j=k->j<=ns.length->St j s.heap->YO ns j l->s.heap.get? S=some {cls:= .type "list",dict:=none,data:= .seq l c,slots:=#[]}->(∀v h' tk,(ns=[]/\v=d\/ns≠[]/\∃t,v= .int (maxD ns 0) t)->(∀b o,b∉wr->b≠S->s.heap.get? b=some o->h'.get? b=some o)->R (.ok (.ret v)) {s with heap:=h',toks:=tk})->codeAny (model prog w) A (.builtin "max.loop" ⟨[.ref I, .none, .ref S],[(Str.ofString "default",d)]⟩) R s:=by
 have O:S∉wr:=λh=>N (W.sub _ h);have T:(toString "max"++toString ".loop":String)="max.loop":=by decide
 intro k;induction k with
  |zero=>
   intro j s l c Z Y D hb p n;have y:j=ns.length:=by lia
   refine codeAny_builtin F.entry_max_loop ?_;rw[Around.under_plainId F.plain_max_loop _];show wpAny _ A.in1 (seqItems? (.ref S)>>=_) _ _ s;refine aA (wpAny_seqItems p rfl ?_);rcases hb with⟨K,rfl⟩|⟨K,t,rfl⟩;·show wpAny _ A.in1 (tryCatch (pyNext (.ref I)) _>>=_) _ _ s;refine aA (wpAny_tryCatch (W.done s _ _ (y▸D) λh' tk f=>?_));show wpAny _ A.in1 (rule _>>=_) _ _ _;refine aA (wpAny_rule (bB ?_));have e:ns=[]:=List.eq_nil_of_length_eq_zero (by lia);exact n d _ tk (.inl ⟨e,rfl⟩) λb o a g q=>f b o a q
   ·show wpAny _ A.in1 (tryCatch (pyNext (.ref I)) _>>=_) _ _ s;refine aA (wpAny_tryCatch (W.done s _ _ (y▸D) λh' tk f=>?_));have m:=f S _ O p;show wpAny _ A.in1 (updateSeq S (λ_=>#[])>>=_) _ _ _;refine aA ?_;refine wpAny_updateSeq m rfl (aA (wpAny_letGo (bB ?_)));have e:ns≠[]:=λz=>by rw[z]at y;simp at y;lia
    refine n _ _ tk (.inr ⟨e,t,by rw[y,List.take_length]⟩) λb o a g q=>(kT _ _ (Ne.symm g)).trans (f b o a q)
  |succ k U=>
   intro j s l c Z Y D hb p n;have C:j<ns.length:=by lia
   refine codeAny_builtin F.entry_max_loop ?_;rw[Around.under_plainId F.plain_max_loop _];show wpAny _ A.in1 (seqItems? (.ref S)>>=_) _ _ s;refine aA (wpAny_seqItems p rfl ?_);have X:∀x,ns[j]?=some x->ns.take (j+1)=ns.take j++[x]:=λx G=>by rw[List.take_add_one,G];rfl
   rcases hb with⟨K,rfl⟩|⟨K,t,rfl⟩
   ·show wpAny _ A.in1 (tryCatch (pyNext (.ref I)) _>>=_) _ _ s;refine aA (wpAny_tryCatch (W.item j s _ _ C D λv h' tk M L f=>?_));obtain⟨x,u,G,rfl⟩:=V j v M;have m:=f S _ O p;show wpAny _ A.in1 (updateSeq S (λ_=>#[.int x u, .int x u])>>=_) _ _ _;refine aA ?_;refine wpAny_updateSeq m rfl ?_;rw[T];refine bB ⟨plainId_quiet F.plain_max_loop _,U (j+1) _ _ _ (by lia) C (W.frame _ _ _ L λb Q o e=>?_) (.inr ⟨by lia,u,?_⟩) (CG _ m rfl) λJ r H E B=>?_⟩;·exact(kT _ _ (λh:S=b=>N (by rw[h];exact Q))).trans e
    ·rw[X x G,K];rfl
    ·exact n J r H E λb o a g e=>B b o a g ((kT _ _ (Ne.symm g)).trans (f b o a e))
   ·show wpAny _ A.in1 (tryCatch (pyNext (.ref I)) _>>=_) _ _ s;refine aA (wpAny_tryCatch (W.item j s _ _ C D λv h' tk M L f=>?_));obtain⟨x,u,G,rfl⟩:=V j v M;have m:=f S _ O p;have ne:ns.take j≠[]:=λz=>by
     have :(ns.take j).length=0:=by rw[z];rfl
     rw[List.length_take]at this;lia
    have em:maxD (ns.take (j+1)) 0=mxI (maxD (ns.take j) 0) x:=by rw[X x G,Mv x 0 ne]
    show wpAny _ A.in1 (tryCatch (holding [.int x u, .int x u] (richCompare .Gt (.int x u) (.int (maxD (ns.take j) 0) t)>>=_)) _>>=_) _ _ _;refine aA (wpAny_tryCatch (jU (aA (UM ?_))));refine aA (jU (wpAny_truthy_bool ?_));refine aA (wpAny_letGo (bB ?_));by_cases hb:x>maxD (ns.take j) 0
    ·rw[decide_eq_true hb];simp only[if_true];refine aA ?_;refine wpAny_updateSeq m rfl (aA (wpAny_letGo ?_));rw[T];refine bB ⟨plainId_quiet F.plain_max_loop _,U (j+1) _ _ _ (by lia) C (W.frame _ _ _ L λb Q o e=>?_) (.inr ⟨by lia,u,?_⟩) (CG _ m rfl) λJ r H E B=>?_⟩;·exact(kT _ _ (λh:S=b=>N (by rw[h];exact Q))).trans e
     ·rw[em,mxI,if_pos hb]
     ·exact n J r H E λb o a g e=>B b o a g ((kT _ _ (Ne.symm g)).trans (f b o a e))
    ·rw[decide_eq_false hb];simp only[Bool.false_eq_true,if_false];refine aA (wpAny_letGo ?_);rw[T];refine bB ⟨plainId_quiet F.plain_max_loop _,U (j+1) _ _ c (by lia) C L (.inr ⟨by lia,t,?_⟩) m λJ r H E B=>?_⟩;·rw[em,mxI,if_neg hb]
     ·exact n J r H E λb o a g e=>B b o a g (f b o a e)
end
theorem ints_get:∀{ns:List Int}{us:List Value},Vals (ns.map V.int) us->∀(i:Nat)(u:Value),us[i]?=some u->∃x t,ns[i]?=some x/\u= .int x t|[],_, .nil,i,u,e=>by simp at e|n::ns,_, .cons r t,0,u,e=>by obtain⟨tk,r⟩:=r;simp at e;exact⟨n,tk,rfl,by rw[<-e,r]⟩|n::ns,_, .cons r t,i+1,u,e=>by simpa using ints_get t i u (by simpa using e)
section
variable{X:Cx}{pins:List (Addr×Obj)}{σ:L2.St}{H:Hp}{s:Shared}
theorem Q1{p:Addr}{ns:List Int}{i:Int}{v:Value}{Q:VK}(hc:X.calm=true)(I:Inv X pins σ H s)(hq:bH X.K H p (ns.map V.int))(D:RelV (.int i) v)(q:Q (.int (maxD ns i)) H):wpAny (model X.prog X.w) X.A (call (.builtin "max") [.ref p] [(Str.ofString "default",v)]) (EP X pins σ Q) X.xe s:=by
 obtain⟨k,r,pl,E⟩:=I.list hq;have hl:=pl.isList;have lt:p<s.heap.objs.size:=by obtain⟨o,e,_⟩:=hl;exact bT e
 have C:∀a,X.A.in1.handled=some (.ref a)->a≠s.heap.objs.size:=λa c=>by
  rcases I.hb hc with z|⟨b,oe,vs,e1,e2,_⟩;·rw[show X.A.in1.handled=X.A.handled from rfl,z]at c;cases c
  ·rw[show X.A.in1.handled=X.A.handled from rfl,e1]at c;cases c;exact eg (bT e2)
 have x:(toString "max"++toString ".loop":String)="max.loop":=by decide
 refine Eo F.kind_max F.plain_max F.entry_max (LP _ _) ?_;show wpAny _ X.A.in1 (Builtin.Builtins.bindParams "max" ["key","default"] 0 ⟨[],[(Str.ofString "default",v)]⟩>>=_) _ _ s;refine aA (wpAny_of_eq (show Builtin.Builtins.bindParams "max" ["key","default"] 0 ⟨[],[(Str.ofString "default",v)]⟩=pure [none,some v]from rfl) ?_);refine aA (bB ?_);refine aA (wpAny_pyIter_list hl ?_);refine aA (zP ?_);have len:k.toArray.size=ns.length:=by rw[dq,<-r.length,dI]
 have h:=Hr (prog:=X.prog) (w:=X.w) (A:=X.A.in1) s.heap.objs.size p (eg lt) k.toArray C;rw[len]at h;rw[x];have m:((s.heap.push {cls:= .type "list_iterator",data:= .fields #[.ref p, .int 0 0]}).objs.size)∉s.heap.objs.size::p::lS X.A.in1:=by
  rw[Heap.size_push];intro z;rcases List.mem_cons.mp z with z|z;·exact Nat.succ_ne_self _ z
  ·rcases List.mem_cons.mp z with z|z;·rw[<-z]at lt;exact Nat.not_succ_lt_self lt
   ·have g:=oj z;rcases I.hb hc with q|⟨b,oe,vs,e1,e2,_⟩;·rw[show X.A.in1.handled=X.A.handled from rfl,q]at g;cases g
    ·rw[show X.A.in1.handled=X.A.handled from rfl,e1]at g;cases g;exact Nat.not_succ_lt_self (bT e2)
 refine bB ⟨plainId_quiet F.plain_max_loop _,Mx (d:=v) h (λj u e=>ints_get r j u (by simpa using e)) _ m _ 0 _ #[] _ rfl (eB _) ?_ (.inl ⟨rfl,rfl⟩) (gT _ rfl) λu h' tk B n=>?_⟩;·exact⟨⟨_,b_ _ (gT _ rfl),rfl,rfl⟩,(hl.push _).push _,(I.hb hc).mono λa o _ l=>b_ _ (b_ _ l)⟩
 ·refine⟨.int (maxD ns i),H,I.kept (h':=h') (t':=tk) λb o f=>n b o (λhm=>?_) (λhm=>?_) (b_ _ (b_ _ f)),?_,q⟩;·rw[List.mem_singleton.mp hm]at f;exact Nat.lt_irrefl _ (bT f)
  ·have :=bT f;rw[hm,Heap.size_push]at this;exact Nat.not_succ_lt_self this
  ·rcases B with⟨rfl,rfl⟩|⟨y,t,rfl⟩;·exact D
   ·refine⟨t,?_⟩;cases ns with|nil=>exact absurd rfl y|cons a r=>rfl
end
noncomputable def acv(K:PySem.W.Frag)(t tk:TA):TE:=λσ H Q=>t σ H λvs b=>tk σ b λc a=>∃p ns i,vs=[.ref p]/\c=[.int i]/\bH K a p (ns.map V.int)/\Q (.int (maxD ns i)) a
theorem Ul{X:Cx}{e d:Expr}{t tk:TA}{p kp a:Pos}(hm:X.mg "max"=none)(ha:PA X [e] t)(k:PK X [⟨some (Str.ofString "default"),d,kp⟩] tk)(hc:X.calm=true:=by rfl)(j:Gl X "max":=by rfl)(b:starEach [e] X.env=[(false,eval e X.env)]:=by rfl):PE X (.Call (.Name "max" p) [e] [⟨some (Str.ofString "default"),d,kp⟩] a) (acv X.K t tk):=by intro pins s σ H Q I h;refine zT (lT I j hm CJ ?_);refine callWith_kw (bX (ha a pins s σ H _ I h) λus s1⟨vs,c,f,l,q1⟩=>bX (k a pins s1 σ c _ f q1) λws s2⟨w,r,g,m,q2⟩=>?_) (by rw[b];rfl) (by rw[b];rfl);obtain⟨p,ns,i,rfl,rfl,hq,q⟩:=q2;obtain⟨u,rfl,n⟩:=l.one;cases n;obtain⟨v,rfl,o⟩:=m.one;exact Q1 hc g hq o q
theorem d_{H a:Hp}{p:Addr}{o:HO}(h:aM H a)(hp:H p=none):aM H (upd a p o):=λb u q=>by rw[aZ (aX q hp)];exact h b u q
theorem Rj{J:It}{p:Addr}{k:Hp}{g:TG}{w:TT}{u:TE}{b:L2.St}{C:Hp->Prop}(n:Nat)(f:Nat->Option V)(hp:k p=none)(hn:n<=sizeLine)(B:∀i a,i<n->aM k a->J.go i a/\∀x h,J.zH i a x h->∀(R:V->Hp->Prop)(r:Hp->Prop),(∀v j,f i=some v->aM a j->R v j)->(∀d,f i=none->aM a d->r d)->g x b h λo q=>w o q λok d=>if ok=true then u o d R else r d)(hd:∀a,aM k a->a p=some (.lst ((List.range n).filterMap f))->J.stop n a/\C a):∃W:Nat->Nat->List V->Hp->Prop,(∃m,W 0 m [] (upd k p (.lst [])))/\∀i m c a,W i m c a->(J.stop i a/\C a)\/(J.go i a/\∀x h,J.zH i a x h->g x b h λo q=>w o q λok d=>if ok=true then u o d λv j=>j p=some (.lst c)/\c.length<sizeLine/\∃l,l<m/\W (i+1) l (c++[v]) (upd j p (.lst (c++[v])))else∃l,l<m/\W (i+1) l c d):=by
 refine kE (Q:=λ_ H=>C H) n (λi c a=>c=(List.range i).filterMap f/\a p=some (.lst c)/\aM k a) ⟨rfl,ak,aq hp _⟩ ?_ ?_
 ·rintro i c a hi⟨rfl,h2,s2⟩;obtain⟨z,A⟩:=B i a hi s2;have D:((List.range i).filterMap f).length<sizeLine:=by have :=List.length_filterMap_le f (List.range i);rw[List.length_range]at this;lia
  refine⟨z,λx h y=>A x h y _ _ (λv j e t=>⟨t _ _ h2,D,nx hi ⟨?_,ak,d_ (s2.trans t) hp⟩⟩) λd e s=>nx hi ⟨?_,s _ _ h2,s2.trans s⟩⟩;·rw[List.range_succ,List.filterMap_append];simp[e]
  ·rw[List.range_succ,List.filterMap_append];simp[e]
 ·rintro c a⟨rfl,h2,s2⟩;exact hd a s2 h2
theorem AA{J:It}{p:Addr}{h:Hp}{g:TG}{r:TE}{b:L2.St}{C:Hp->Prop}(n:Nat)(f:Nat->V)(hp:h p=none)(hn:n<=sizeLine)(u:∀i a,i<n->aM h a->J.go i a/\∀x d,J.zH i a x d->∀(R:V->Hp->Prop),(∀e,aM a e->R (f i) e)->g x b d λk l=>r k l R)(hd:∀a,aM h a->a p=some (.lst ((List.range n).map f))->J.stop n a/\C a):∃W:Nat->Nat->List V->Hp->Prop,(∃m,W 0 m [] (upd h p (.lst [])))/\∀i m c a,W i m c a->(J.stop i a/\C a)\/(J.go i a/\∀x d,J.zH i a x d->g x b d λk l=>Cb k l λok o=>if ok=true then r k o λv e=>e p=some (.lst c)/\c.length<sizeLine/\∃j,j<m/\W (i+1) j (c++[v]) (upd e p (.lst (c++[v])))else∃j,j<m/\W (i+1) j c o):=by
 refine kE (Q:=λ_ H=>C H) n (λi c a=>c=(List.range i).map f/\a p=some (.lst c)/\aM h a) ⟨rfl,ak,aq hp _⟩ ?_ ?_;·rintro i c a hi⟨rfl,h2,s2⟩;obtain⟨s,t⟩:=u i a hi s2;refine⟨s,λx d y=>?_⟩;simp only[Cb,if_true];refine t x d y _ λe q=>⟨q _ _ h2,by rw[dI,List.length_range];lia,nx hi ⟨?_,ak,d_ (s2.trans q) hp⟩⟩;rw[List.range_succ,pG];rfl
 ·rintro c a⟨rfl,h2,s2⟩;exact hd a s2 h2
end L3
end
section
namespace HT
open PySem PyProof.Rows
section
open PySem.SeqAt
open PySem.AutoSeq1(wpAny_loadPart')
open PySem.MeetsSeq PySem.MeetsSeq2 PySem.MeetsSeq3
variable{prog:Program}{w:World}{A:Around}{E:Value->Shared->Prop}{s:Shared}
theorem kQ{t sl:Addr}{items:Array Value}{b c:Value}{lo hi:Option Int}{Q:Value->Shared->Prop}(ht:IsTup s.heap t items)(a:s.heap.IsSliceOf sl b c .none)(pl:IsPart b lo)(i:IsPart c hi)(h1:eF items.size 0 lo=0)(h2:eF items.size items.size hi=items.size)(h:Q (.ref t) s):wpAny (model prog w) A (getItem (.ref t) (.ref sl)) Q E s:=by
 obtain⟨os,f,e,j⟩:=id a;have d:s.TypeIs (.ref sl) "slice":=⟨os,f,e⟩;unfold getItem;try with_reducible refine jU ?_
 first|refine aA (bB ?_)|skip
 refine aA (wpAny_sequenceKey ht.typeIs (by decide) ?_);refine aA (wpAny_callSpecial?_slot (name:=Str.ofString "__getitem__") ht.typeIs PyProof.Rows.slot_tuple_getitem (qO PyProof.Rows.slot_tuple_getitem ht.typeIs entry_tuple_getitem ?_ (args_tuple_getitem _ _)));show wpAny _ _ (Builtin.Tuple.tupleItemsOf (.ref t)>>=_) _ _ s;refine aA (tupleItemsOf_ ht ?_);refine aA (wpAny_typeOf d ?_);rw[if_pos (by decide)];refine aA (iD a pl i ?_);have g:(((eF items.size 0 lo:Nat):Int)==0&&(1:Int)==1&&(eF items.size items.size hi-eF items.size 0 lo)==items.size)=true:=by rw[h1,h2];simp
 show wpAny _ _ (if(((eF items.size 0 lo:Nat):Int)==0&&(1:Int)==1&&(eF items.size items.size hi-eF items.size 0 lo)==items.size)=true then _ else _) _ _ s;rw[if_pos g];show wpAny _ _ (Builtin.Tuple.tupleIsExact (.ref t)>>=_) _ _ s;refine aA ?_;unfold Builtin.Tuple.tupleIsExact;refine aA (wpAny_typeOf ht.typeIs (bB ?_));rw[if_pos (by decide)];exact aA (wpAny_rule (bB ⟨_,rfl,bB h⟩))
end
end HT
end
section
namespace L3
open PySem PySem.Spec PyProof.Rows L2
noncomputable def aeu(K:PySem.W.Frag):V->Option Int->Option Int->Hp->VK->Prop:=λx lo hi H Q=>∃a xs,x= .ref a/\bS K H a xs/\(∀p,H p=none->Q (.ref p) (upd H p (.tup (iX xs lo hi))))/\(iX xs lo hi=xs->Q (.ref a) H)
theorem BI{X:Cx}:Tc X (aeu X.K):=by
 intro pins s σ H x v g i lo hi sl Q I e b pl d h;obtain⟨a,xs,rfl,c,q1,q2⟩:=h;by_cases hw:HT.eF xs.length 0 lo=0/\HT.eF xs.length xs.length hi=xs.length
 ·cases e;obtain⟨f,r,ht,j⟩:=I.tuple c;have hlen:f.toArray.size=xs.length:=by rw[dq];exact r.length.symm
  refine⟨"tuple",_,PyProof.Rows.slot_tuple_getitem.lookup,ht.typeIs,?_⟩;refine HT.kQ ht b pl d (by rw[hlen];exact hw.1) (by rw[hlen];exact hw.2) ⟨.ref a,H,I,rfl,q2 ?_⟩;unfold iX;rw[hw.1,hw.2,List.drop_zero,Nat.sub_zero,List.take_length]
 ·exact aag pins s σ H _ v g i lo hi sl Q I e b pl d ⟨a,xs,rfl,c,hw,q1⟩
theorem oz(xs:List V)(k:Nat):iX xs (some (k:Int)) none=xs.drop k:=by
 unfold iX;rw[HT.Fw,HT.Lf];by_cases h:k<=xs.length;·rw[Nat.min_eq_left h];exact List.take_of_length_le (by rw[List.length_drop];lia)
 ·rw[Nat.min_eq_right (by lia),List.drop_eq_nil_of_le (bK _),List.drop_eq_nil_of_le (show xs.length<=k by lia)];simp
theorem KU(xs:List V)(k:Nat):iX xs none (some (k:Int))=xs.take k:=by
 unfold iX;rw[HT.Fw,HT.Lf,List.drop_zero,Nat.sub_zero];by_cases h:k<=xs.length;·rw[Nat.min_eq_left h]
 ·rw[Nat.min_eq_right (by lia),List.take_of_length_le (bK _),List.take_of_length_le (show xs.length<=k by lia)]
section
variable{X:Cx}{K:PySem.W.Frag}
theorem A3(a:X.K=K:=by rfl):iP X (.builtin "isinstance") (λxs H Q=>∃x t n b,xs=[x, .ty n]/\lO K H x t/\PySem.W.kitOne K t (.type n)=some b/\Q (.bl b) H):=by subst a;exact fV
theorem UD(a:X.K=K:=by rfl):IxR X (ab5 K):=by subst a;exact aR
end
noncomputable def jF:List Nat->Nat|[]=>0|a::r=>max a (jF r)
end L3
end
section
namespace L3
open PySem PySem.Spec L2
variable{K:PySem.W.Frag}
def zm(K:PySem.W.Frag)(a:Addr)(xs:List V):Prop:=∃(o:Obj)(b:Array Value)(n:Nat),K.lookup a=some o/\o.cls= .type "tuple"/\o.data= .seq b n/\b.size<=sizeLine/\Vals xs b.toList
structure KD(K:PySem.W.Frag)(a:Addr)(rows:List (Str×List V))(as:List Addr):Prop where
 len:as.length=rows.length
 tab:lZ K a ((rows.zip as).map λp=>(p.1.1,V.ref p.2))
 sq:∀p∈rows.zip as,zm K p.2 p.1.2
theorem Ad{c d:Type}{x:Str}(f:(Str×c)×d->V):∀(rows:List (Str×c))(as:List d),as.length=rows.length->(∃r a,(r,a)∈rows.zip as/\r.1=x/\rows.lookup x=some r.2/\PyProof.Rows.KTD.datumAt x ((rows.zip as).map λp=>(p.1.1,f p))=some (f (r,a)))\/(rows.lookup x=none/\PyProof.Rows.KTD.datumAt x ((rows.zip as).map λp=>(p.1.1,f p))=none)
 |[],_,_=> .inr ⟨rfl,rfl⟩
 |(k,v)::rows,[],h=>by simp at h
 |(k,v)::rows,a::as,h=>by
  have g:=Ad (x:=x) f rows as (by simpa using h);by_cases e:x=k;·subst e;exact .inl ⟨(x,v),a,d4,rfl,by simp[List.lookup],by simp[PyProof.Rows.KTD.datumAt]⟩
  ·have e1:(x==k)=false:=by simpa using e
   have e2:¬k=x:=λz=>e z.symm;rcases g with⟨r,b,h1,h2,h3,h4⟩|⟨h1,h2⟩;·exact .inl ⟨r,b,dW _ h1,h2,by rw[n9,e1];exact h3,by simp only[List.zip_cons_cons,d7,PyProof.Rows.KTD.datumAt,e,decide_false,Bool.false_eq_true,if_false];exact h4⟩
   ·exact .inr ⟨by rw[n9,e1];exact h1,by simp only[List.zip_cons_cons,d7,PyProof.Rows.KTD.datumAt,e,decide_false,Bool.false_eq_true,if_false];exact h2⟩
theorem KD.some{a:Addr}{rows:List (Str×List V)}{as:List Addr}(T:KD K a rows as){x:Str}{ds:List V}(h:rows.lookup x=Option.some ds):∃b,PyProof.Rows.KTD.datumAt x ((rows.zip as).map λp=>(p.1.1,V.ref p.2))=Option.some (.ref b)/\∀H,bS K H b ds:=by
 rcases Ad (x:=x) (λp=>V.ref p.2) rows as T.len with⟨r,b,h1,h2,h3,h4⟩|⟨h1,_⟩;·rw[h]at h3;cases h3;exact⟨b,h4,λH=> .inr (T.sq _ h1)⟩
 ·rw[h]at h1;cases h1
noncomputable def bo:List V->List Value->Bool|[],[]=>true| .str x::vs, .str y _::us=>decide (x=y)&&bo vs us| .int i::vs, .int j _::us=>decide (i=j)&&bo vs us|_,_=>false
theorem lH:∀{vs:List V}{us:List Value},bo vs us=true->Vals vs us|[],[],_=> .nil| .str x::vs, .str y t::us,h=>by simp only[bo,cY,decide_eq_true_eq]at h;obtain⟨rfl,h⟩:=h;exact .cons ⟨t,rfl⟩ (lH h)| .int x::vs, .int y t::us,h=>by simp only[bo,cY,decide_eq_true_eq]at h;obtain⟨rfl,h⟩:=h;exact .cons ⟨t,rfl⟩ (lH h)|[],_::_,h=>by simp[bo]at h|_::_,[],h=>by simp[bo]at h| .aW::_,_::_,h=>by simp[bo]at h| .bl _::_,_::_,h=>by simp[bo]at h| .NA _::_,_::_,h=>by simp[bo]at h| .Z9 _::_,_::_,h=>by simp[bo]at h| .ref _::_,_::_,h=>by simp[bo]at h| .ty _::_,_::_,h=>by simp[bo]at h| .str _::_, .none::_,h=>by simp[bo]at h| .str _::_, .int _ _::_,h=>by simp[bo]at h| .str _::_, .ref _::_,h=>by simp[bo]at h| .str _::_, .bool _::_,h=>by simp[bo]at h| .str _::_, .float _ _::_,h=>by simp[bo]at h| .str _::_, .bytes _ _::_,h=>by simp[bo]at h| .str _::_, .type _::_,h=>by simp[bo]at h| .str _::_, .builtin _::_,h=>by simp[bo]at h| .str _::_, .ellipsis::_,h=>by simp[bo]at h| .str _::_, .notImplemented::_,h=>by simp[bo]at h| .int _::_, .none::_,h=>by simp[bo]at h| .int _::_, .str _ _::_,h=>by simp[bo]at h| .int _::_, .ref _::_,h=>by simp[bo]at h| .int _::_, .bool _::_,h=>by simp[bo]at h| .int _::_, .float _ _::_,h=>by simp[bo]at h| .int _::_, .bytes _ _::_,h=>by simp[bo]at h| .int _::_, .type _::_,h=>by simp[bo]at h| .int _::_, .builtin _::_,h=>by simp[bo]at h| .int _::_, .ellipsis::_,h=>by simp[bo]at h| .int _::_, .notImplemented::_,h=>by simp[bo]at h
noncomputable def cg(vs:List V)(a:Array Value):Bool:=bo vs a.toList&&decide (a.size<=100)
theorem cD{K:PySem.W.Frag}{a:Addr}{d:Option Addr}{b:Array Value}{n:Nat}{sl:Array (Option Value)}{vs:List V}(h:K.lookup a=some ⟨.type "tuple",d, .seq b n,sl⟩)(c:cg vs b=true):zm K a vs:=by simp only[cg,cY,decide_eq_true_eq]at c;exact⟨_,b,n,h,rfl,rfl,c8 c.2 (by decide),lH c.1⟩
noncomputable def gj:List DictEntry->List Str->Bool|[],[]=>true|e::es,k::a=>(match e.key,e.val with| .str x _, .ref _=>decide (x=k)|_,_=>false)&&gj es a|_,_=>false
noncomputable def refsOf(es:List DictEntry):List Addr:=es.map λe=>match e.val with| .ref a=>a|_=>0
theorem Cd:∀{es:List DictEntry}{a:List Str},gj es a=true->PyProof.Rows.KTD.Rows RelV es ((a.zip (refsOf es)).map λp=>(p.1,V.ref p.2))
 |[],[],_=> .nil
 |[],_::_,h=>by simp[gj]at h
 |_::_,[],h=>by simp[gj]at h
 |e::es,k::a,h=>by
  obtain⟨d,c,val⟩:=e;rw[gj,cY]at h;cases c with
   |str x t=>
    cases val with
     |ref b=>
      have h1:x=k:=by simpa using h.1
      subst h1;exact .cons rfl rfl (Cd h.2)
     |_=>simp at h
   |_=>simp at h
theorem aby{a:Addr}{es:Array DictEntry}{ep:Nat}{rows:List (Str×List V)}{as:List Addr}(d:(a==sysModules)=false)(c:K.lookup a=some ⟨.type "dict",none, .dict es ep,#[]⟩)(b:gj es.toList (rows.map (·.1))=true)(rf:refsOf es.toList=as)(hl:as.length=rows.length)(sq:∀p∈rows.zip as,zm K p.2 p.1.2):KD K a rows as:=by refine⟨hl,⟨d,_,es,ep,c,⟨rfl,rfl,rfl⟩,rfl,?_⟩,sq⟩;have h:=Cd b;rw[rf,List.zip_map_left,List.map_map]at h;exact h
theorem cM{r:Str×List V}{b:Addr}{rows:List (Str×List V)}{as:List Addr}(h:zm K b r.2)(t:∀p∈rows.zip as,zm K p.2 p.1.2):∀p∈(r::rows).zip (b::as),zm K p.2 p.1.2:=λp hp=>by
 rcases List.mem_cons.mp hp with rfl|hp;·exact h
 ·exact t p hp
theorem aap:∀p∈([]:List (Str×List V)).zip ([]:List Addr),zm K p.2 p.1.2:=λp hp=>by simp at hp
noncomputable def jC:List DictEntry->List (Str×Int)->Bool|[],[]=>true|e::es,(k,i)::a=>(match e.key,e.val with| .str x _, .int j _=>decide (x=k)&&decide (j=i)|_,_=>false)&&jC es a|_,_=>false
theorem yJ:∀{es:List DictEntry}{a:List (Str×Int)},jC es a=true->PyProof.Rows.KTD.Rows RelV es (a.map λp=>(p.1,V.int p.2))
 |[],[],_=> .nil
 |[],_::_,h=>by simp[jC]at h
 |_::_,[],h=>by simp[jC]at h
 |e::es,(k,i)::a,h=>by
  obtain⟨d,c,val⟩:=e;rw[jC,cY]at h;cases c with
   |str x t=>
    cases val with
     |int b u=>
      have h1:x=k/\b=i:=by simpa using h.1
      obtain⟨rfl,rfl⟩:=h1;exact .cons rfl ⟨u,rfl⟩ (yJ h.2)
     |_=>simp at h
   |_=>simp at h
theorem Ui{a:Addr}{es:Array DictEntry}{ep:Nat}{rows:List (Str×Int)}(d:(a==sysModules)=false)(c:K.lookup a=some ⟨.type "dict",none, .dict es ep,#[]⟩)(b:jC es.toList rows=true):lZ K a (rows.map λp=>(p.1,V.int p.2)):=⟨d,_,es,ep,c,⟨rfl,rfl,rfl⟩,rfl,yJ b⟩
end L3
end
section
namespace L3
open PySem PySem.Spec PyProof.Rows L2
structure MadeX(h h':Heap)(e C:Addr)(hh:Option Value):Prop where
 keeps:∀b o,h.get? b=some o->h'.get? b=some o
 new:h.get? e=none
 there:∃oe vs t c,h'.get? e=some oe/\oe.cls= .ref C/\oe.data= .fields vs/\vs[0]?=some (.ref t)/\vs[1]?=some .none/\vs[2]?=some c/\(hh=none->c= .none)
section
variable{prog:Program}{w:World}{A:Around}{E:Value->Shared->Prop}{s:Shared}
theorem MV{g:Type}{Q:g->Shared->Prop}{h₀:Heap}{e C:Addr}{vs:List Value}(hb:HB h₀ A)(hm:Heap.MadeExcOf h₀ s.heap e (.ref C) vs)(f:∀h',MadeX h₀ h' e C A.handled->E (.ref e) {s with heap:=h'}):wpAny (model prog w) A (raiseNew (.ref e):Sem g) Q E s:=by
 obtain⟨t,d,_,_⟩:=hm.there;simp only[raiseNew];refine aA (wpAny_handled ?_);rcases hb with hb|⟨a,oe,ws,hb,e1,e2,e3⟩;·rw[hb];refine aA (bB (wpAny_throw (f s.heap ⟨hm.keeps,hm.new,_,_,t,_,d,rfl,rfl,rfl,rfl,rfl,λ_=>rfl⟩)))
 ·rw[hb];have ne:a≠e:=λz=>by rw[z,hm.new]at e1;cases e1
  dsimp only;rw[if_pos (by simpa using ne)];refine aA (jU (Ef (hm.keeps _ _ e1) e2 e3 ?_));refine aA ?_;show wpAny (model prog w) A (setField (.ref e) 2 (.ref a)) _ _ _;refine wpAny_setField d rfl (by simp) (wpAny_throw (f _ ⟨λb o c=>?_,hm.new,_,_,t, .ref a,CG _ d (Obj.isFreed_of_fields (Obj.data_mapFields rfl _)),Obj.cls_mapFields _ _,Obj.data_mapFields rfl _,by simp,by simp,by simp,λz=>by rw[hb]at z;cases z⟩));rw[kT _ _ λz=>by rw[<-z,hm.new]at c;cases c];exact hm.keeps b o c
end
def nM(K:PySem.W.Frag)(C:Addr):Prop:=∃a newId b,ExcBaseFacts "ValueError" newId b a/\PySem.W.excIn K C a newId=true
theorem yN{K:PySem.W.Frag}{h:Heap}{C:Addr}{i:List Value}{newId:String}(X:K.In h)(q:PySem.W.excIn K C i newId=true):∃bm N e f bs p g sub b c d k0 k1 k2 k3 a o,h.get? C=some (excClassObj e f C N bs bm p g sub b c d k0 k1 k2 k3 a newId)/\h.Ns N o/\o "__init__"=none/\OwnTail h i bm:=by
 unfold PySem.W.excIn at q;split at q
 ·rename_i d cd sl r;split at q
  ·rename_i t bm k0 k1 k2 k3 n a hm m;simp only[cY,beq_iff_eq,Bool.not_eq_true']at q;obtain⟨⟨⟨⟨⟨rfl,rfl⟩,j⟩,ht⟩,b9⟩,k⟩:=q;obtain⟨e,bs,v,ns,f,hd,g,sub,b,c,u⟩:=cd;dsimp only at hm j b9 k;subst hm j;have s:sl=#[k0,k1,k2,k3,some (.builtin n),a]:=by obtain⟨l⟩:=sl;simp only at m;rw[m]
   subst s;exact⟨bm,ns,e,f,bs,hd,g,sub,b,c,d,k0,k1,k2,k3,a,_,X _ _ r, .of_isNs (PySem.W.isNs_of_in X b9),PySem.W.nsMap_none_of_in X b9 k,PySem.W.tail_of_in X ht⟩
  ·cases q
 ·cases q
noncomputable def Y3(G:Hp->Prop)(t:TA):TS:=λD σ H=>t σ H λvs a=>vs.length<=100/\G a
theorem l_{X:Cx}{G:Hp->Prop}{x:Str}{C:Addr}{b:Expr}{t:TA}{m eQ V:Pos}(A:nM X.K C)(hm:X.mg x=some (.ref C))(ha:PA X [b] t)(O:∀pins σ H s e h',Inv X pins σ H s->MadeX s.heap h' e C X.A.handled->G H->X.xe (.ref e) {s with heap:=h'})(hc:X.calm=true:=by rfl)(L:Gl X x:=by rfl)(E:(x==("__debug__":Str))=false:=by decide)(J:starEach [b] X.env=[(false,eval b X.env)]:=by rfl):PS X (.Raise (some (.Call (.Name x m) [b] [] eQ)) none V) (Y3 G t):=by
 intro pins s σ H D I h;obtain⟨Z,newId,F6,FB,q⟩:=A;have Q:wpAny (model X.prog X.w) X.A (eval (.Call (.Name x m) [b] [] eQ) X.env) (λv a=>∃e t h₀ vs,v= .ref e/\X.K.In a.heap/\a.heap.get? e=some {cls:= .ref C,data:= .fields #[.ref t, .none, .none, .none, .bool false, .none]}/\HB h₀ X.A/\Heap.MadeExcOf h₀ a.heap e (.ref C) vs/\∀h',MadeX h₀ h' e C X.A.handled->X.xe (.ref e) {a with heap:=h'}) X.xe s:=by refine zT (jg I L hm ?_ E);have l:=ha eQ pins s σ H _ I h;rw[J]at l⊢;unfold callWith;refine aA (jU (Calls.evalArgs_plain (bX l λus s1⟨vs,n,i,r,hl,g⟩=>aA (wpAny_standAt ?_))));obtain⟨bm,N,U,W,bs,F,Y,sub,o,p,u,k0,k1,k2,k3,P,R,c,j,k,T⟩:=yN i.kI q;have hb:=i.hb hc;have M:=O pins σ n s1;have Mt:=i.kI;obtain⟨hp,w,d,tk,os⟩:=s1;show wpAny _ _ (keeperOf (.ref C)>>=_) _ _ _;refine aA (wpAny_keeperOf_exc c ?_);refine aA (wpAny_call_exc_subT (hrest:=by rw[List.nil_append,<-r.length];exact c8 hl (by decide)) FB T c j k λh' e f=>aA (jU (wpAny_point (bB ?_))));obtain⟨t,ht,_,_⟩:=f.there;exact⟨e,t,hp,_,rfl,Mt.keeps f.keeps,ht,hb,f,λy S=>M e y i S g⟩
 rw[arm_exec_Raise];refine aA (wpAny_standAt ?_);unfold raiseStmt;refine aA (aA (bX Q λv a h₁=>aA (wpAny_standAt (bB ?_))));obtain⟨e,t,h₀,vs,rfl,Mt,K,hb,f,z⟩:=h₁;obtain⟨bm,N,U,W,bs,F,Y,sub,o,p,u,k0,k1,k2,k3,P,R,c,j,k,T⟩:=yN Mt q;have B:(Value.ref C::bm).contains (.type "BaseException")=true:=by rw[List.contains_cons,T.hasType FB.hasBase,Bool.or_true]
 obtain⟨hp,w,d,tk,os⟩:=a;repeat(first|with_reducible refine wpAny_loadPart_at K ?_|with_reducible refine wpAny_loadPart_at c ?_|(with_reducible refine wpAny_isSubtype_exc c ?_;rw[B])|wp_step)
 exact MV hb f z
def Ex(h:Heap)(a C:Addr)(T c:Value):Prop:=∃oe vs a0,h.get? a=some oe/\oe.cls= .ref C/\oe.data= .fields vs/\vs[0]?=some a0/\vs[1]?=some T/\vs[2]?=some c
def Tb(h:Heap)(T:Addr)(fl:Value):Prop:=∃a ts,h.get? T=some a/\a.data= .fields ts/\ts[3]?=some fl
structure Nv(fs:List Addr)(xs:List Addr)(h h':Heap):Prop where
 keep:∀b o,h.get? b=some o->b∉fs->b∉xs->h'.get? b=some o
 slot:∀b o,h.get? b=some o->b∈fs->b∉xs->∃sl,h'.get? b=some {o with slots:=sl}
section
variable{M:Model}{A:Around}{E:Value->Shared->Prop}{s:Shared}
theorem OK{base:Heap}{l:List Env}{b:Addr}{o:Obj}{vs:Array Value}(hl:s.heap.FunFrames base l)(e:s.heap.get? b=some o)(d:o.data= .fields vs):b∉jQ l:=λhm=>by obtain⟨_,o',a,c⟩:=hl.mem hm;rw[e]at a;cases a;exact c vs d
theorem Ai{base:Heap}{env:Env}{outer:List Env}{L a C:Addr}{head T c:Value}{q:Bool}{Q:Unit->Shared->Prop}(r:A.frames=some (env::outer))(hl:s.heap.FunFrames base (env::outer))(hf:env.frame=some L)(x:Ex s.heap a C T c)(h:∀h' d,Ex h' a C (.ref d) c->Tb h' d (rawInt L)->s.heap.get? d=none->d≠a->Nv (jQ (env::outer)) [a] s.heap h'->Q () {s with heap:=h'}):wpAny M A (do let f<-frameOf env;let pl<-entryPlaceOf L q;let b<-EntryCells.newEntry head f .none (rawInt L) .none pl;setField (.ref a) 1 b) Q E s:=by
 obtain⟨oe,vs,a0,j,hc,hd,p,h1,h2⟩:=x;have t:a∉jQ (env::outer):=OK hl j hd;refine aA (wpAny_frameOf_fun r hl hf λk1 g=>aA (wpAny_entryPlaceOf λpl k=>?_));unfold EntryCells.newEntry newFields;refine aA (zP ?_ (k.sizeOk5 _ _ _ _ _));have i:k1.get? a=some oe:=(g.2.1 a t).trans j;have sz:k1.objs.size=s.heap.objs.size:=g.1;have l:k1.objs.size≠a:=Nat.ne_of_gt (bT i);refine wpAny_setField (b_ _ i) hd (Array.getElem?_eq_some_iff.mp h1).1 (h _ k1.objs.size ?_ ?_ ?_ l ?_)
 ·refine⟨_,_,a0,CG _ (b_ _ i) (Obj.isFreed_of_fields (Obj.data_mapFields hd _)),(Obj.cls_mapFields _ _).trans hc,Obj.data_mapFields hd _,?_,?_,?_⟩;·rw[Array.getElem?_setIfInBounds_ne (by decide)];exact p
  ·have :=(Array.getElem?_eq_some_iff.mp h1).1;simp[this]
  ·rw[Array.getElem?_setIfInBounds_ne (by decide)];exact h2
 ·refine⟨_,_,(kT _ _ (Ne.symm l)).trans (gT _ rfl),rfl,?_⟩;first|(simp;done)|(rcases k with rfl|⟨_,_,_,_,_,_,_,rfl⟩<;>simp)
 ·rw[sz];exact Heap.get?_none_of_le (bK _)
 ·refine⟨λb o e n m=>?_,λb o e n m=>?_⟩;·have e1:k1.get? b=some o:=(g.2.1 b n).trans e;rw[kT _ _ λz=>m (by simp[z])];exact b_ _ e1
  ·obtain⟨sl,e1⟩:=g.2.2 b o e;refine⟨sl,?_⟩;rw[kT _ _ λz=>m (by simp[z])];exact b_ _ e1
theorem GL{base:Heap}{env:Env}{outer:List Env}{L a C:Addr}{c:Value}{Q:Unit->Shared->Prop}(e:A.frames=some (env::outer))(hl:s.heap.FunFrames base (env::outer))(hf:env.frame=some L)(x:Ex s.heap a C .none c)(h:∀h' b,Ex h' a C (.ref b) c->Tb h' b (rawInt L)->s.heap.get? b=none->b≠a->Nv (jQ (env::outer)) [a] s.heap h'->Q () {s with heap:=h'}):wpAny M A (noteFrame (.ref a) env) Q E s:=by obtain⟨oe,vs,a0,d,hc,hd,f,h1,h2⟩:=id x;unfold noteFrame;simp only[hf];refine aA (fg d hd h1 ?_);rw[if_neg (by decide)];exact Ai e hl hf x h
theorem zX{base:Heap}{env:Env}{outer:List Env}{L a C T:Addr}{c:Value}{Q:Unit->Shared->Prop}(t:A.frames=some (env::outer))(hl:s.heap.FunFrames base (env::outer))(hf:env.frame=some L)(x:Ex s.heap a C (.ref T) c)(y:Tb s.heap T .none)(r:T≠a)(h:∀h' d,Ex h' a C (.ref d) c->Tb h' d (rawInt L)->s.heap.get? d=none->d≠a->Nv (jQ (env::outer)) [a,T] s.heap h'->Q () {s with heap:=h'}):wpAny M A (noteFrame (.ref a) env) Q E s:=by
 obtain⟨oe,vs,a0,k,hc,hd,p,h1,h2⟩:=id x;obtain⟨D,ts,g,dT,h3⟩:=y;unfold noteFrame;simp only[hf];refine aA (fg k hd h1 ?_);rw[if_pos (show(Value.ref T !=Value.none)=true from by simp)];refine aA (fg g dT h3 ?_);rw[if_neg (show¬((Value.none==rawInt L)=true)from by simp[rawInt])];refine aA (wpAny_setField g dT (Array.getElem?_eq_some_iff.mp h3).1 ?_);have f:∀b,b≠T->(s.heap.update T (Obj.mapFields (·.setIfInBounds 3 Value.none))).get? b=s.heap.get? b:=λb hb=>kT _ _ (Ne.symm hb);have u:∀b o,s.heap.get? b=some o->(∀vs,o.data≠ .fields vs)->b≠T:=λb o hb i q=>by rw[q,g]at hb;cases hb;exact i ts dT
 refine Ai (s:={s with heap:=s.heap.update T (Obj.mapFields (·.setIfInBounds 3 Value.none))}) t (hl.of_keeps λb o hb i=>⟨o,(f b (u b o hb i)).trans hb,rfl⟩) hf ⟨oe,vs,a0,(f a (Ne.symm r)).trans k,hc,hd,p,h1,h2⟩ λh' d v w j B l=>h h' d v w ?_ B ⟨λb o e n m=>?_,λb o e n m=>?_⟩
 ·by_cases z:d=T;·rw[z]at j;have :=CG (Obj.mapFields (·.setIfInBounds 3 Value.none)) g (Obj.isFreed_of_fields (Obj.data_mapFields dT _));rw[j]at this;cases this
  ·rw[<-f d z];exact j
 ·exact l.keep b o ((f b λz=>m (by simp[z])).trans e) n λz=>m (by simp at z;simp[z])
 ·exact l.slot b o ((f b λz=>m (by simp[z])).trans e) n λz=>m (by simp at z;simp[z])
theorem ig{a C T:Addr}{c fl:Value}{Q:Unit->Shared->Prop}(x:Ex s.heap a C (.ref T) c)(y:Tb s.heap T fl)(k:T≠a)(h:∀h',Ex h' a C (.ref T) c->Tb h' T .none->(∀b,b≠T->h'.get? b=s.heap.get? b)->Q () {s with heap:=h'}):wpAny M A (setFlight (.ref a) none) Q E s:=by obtain⟨oe,vs,a0,e,hc,hd,j,h1,h2⟩:=x;obtain⟨l,ts,d,dT,h3⟩:=y;have g:=(Array.getElem?_eq_some_iff.mp h3).1;unfold setFlight;refine aA (fg e hd h1 ?_);rw[if_pos (show(Value.ref T !=Value.none)=true from by simp)];have i:∀b,b≠T->(s.heap.update T (Obj.mapFields (·.setIfInBounds 3 ((none:Option Addr).elim Value.none λf=>rawInt f)))).get? b=s.heap.get? b:=λb hb=>kT _ _ (Ne.symm hb);exact wpAny_setField d dT g (h _ ⟨oe,vs,a0,(i a (Ne.symm k)).trans e,hc,hd,j,h1,h2⟩ ⟨_,_,CG _ d (Obj.isFreed_of_fields (Obj.data_mapFields dT _)),Obj.data_mapFields dT _,by simp[g]⟩ i)
theorem EI{base:Heap}{env:Env}{outer:List Env}{L a C:Addr}{c:Value}{Q:Unit->Shared->Prop}(k:A.frames=some (env::outer))(hl:s.heap.FunFrames base (env::outer))(hf:env.frame=some L)(x:Ex s.heap a C .none c)(h:∀h' d,Ex h' a C (.ref d) c->Tb h' d .none->s.heap.get? d=none->d≠a->Nv (jQ (env::outer)) [a] s.heap h'->Q () {s with heap:=h'}):wpAny M A (leaving env (.ref a)) Q E s:=by unfold leaving;refine aA (GL k hl hf x λh1 T1 l r f g j=>ig (s:={s with heap:=h1}) l r g λh2 p t i=>h h2 T1 p t f g ?_);refine⟨λb o e n m=>(i b λz=>by rw[z,f]at e;cases e).trans (j.keep b o e n m),λb o e n m=>?_⟩;obtain⟨sl,q⟩:=j.slot b o e n m;exact⟨sl,(i b λz=>by rw[z,f]at e;cases e).trans q⟩
theorem FN{base:Heap}{env:Env}{outer:List Env}{L a C T:Addr}{c:Value}{Q:Unit->Shared->Prop}(l:A.frames=some (env::outer))(hl:s.heap.FunFrames base (env::outer))(hf:env.frame=some L)(x:Ex s.heap a C (.ref T) c)(y:Tb s.heap T .none)(k:T≠a)(h:∀h' d,Ex h' a C (.ref d) c->Tb h' d .none->s.heap.get? d=none->d≠a->Nv (jQ (env::outer)) [a,T] s.heap h'->Q () {s with heap:=h'}):wpAny M A (leaving env (.ref a)) Q E s:=by unfold leaving;refine aA (zX l hl hf x y k λh1 T1 p t f g j=>ig (s:={s with heap:=h1}) p t g λh2 r u i=>h h2 T1 r u f g ?_);refine⟨λb o e n m=>(i b λz=>by rw[z,f]at e;cases e).trans (j.keep b o e n m),λb o e n m=>?_⟩;obtain⟨sl,q⟩:=j.slot b o e n m;exact⟨sl,(i b λz=>by rw[z,f]at e;cases e).trans q⟩
end
theorem GI{P:Program}{w:World}{H:Hp}{h:Heap}{a:Addr}{o:HO}(x:cI P w H h a o):∃u,h.get? a=some u:=by
 cases o with
  |lst xs=>obtain⟨_,_,_,_,e⟩:=x;exact⟨_,e⟩
  |tup xs=>obtain⟨_,_,_,o,e,_⟩:=x;exact⟨_,e⟩
  |dK aH=>obtain⟨_,_,_,_,o,_,_,e,_⟩:=x;exact⟨_,e⟩
  |dT aH=>obtain⟨_,_,_,_,o,_,_,e,_⟩:=x;exact⟨_,e⟩
  |set S n=>obtain⟨o,_,_,_,e,_⟩:=x;exact⟨_,e⟩
  |ins C dx fs=>obtain⟨_,_,_,e,_⟩:=x;exact⟨_,e⟩
  |own y=>exact x
  |xd fs=>obtain⟨_,⟨_,_,_,e,_⟩,_⟩:=x;exact⟨_,e⟩
  |rng lo hi=>obtain⟨_,_,_,e⟩:=x;exact⟨_,e⟩
  |FA ob u=>obtain⟨e,_⟩:=x;exact⟨_,e⟩
  |zk ps=>cases ps with|tab q ln cl=>rcases x with e|⟨c,e,_⟩<;>exact⟨_,e⟩|code q=>obtain⟨c,o,vs,t,e1,e2,_⟩:=x;cases e1;exact⟨_,e2⟩
  |met f y=>exact⟨_,show h.get? a=some _ from x⟩
  |ext φ=>obtain⟨_,e,_⟩:=x;exact e
theorem nu{P:Program}{w:World}{H:Hp}{h:Heap}{a:Addr}(x:jN P w H h)(e:h.get? a=none):H a=none:=by cases q:H a with|none=>rfl|some o=>obtain⟨u,z⟩:=GI (x a o q);rw[e]at z;cases z
theorem Nv.any{fs xs:List Addr}{h h':Heap}(p:Nv fs xs h h'){b:Addr}{o:Obj}(e:h.get? b=some o)(m:b∉xs):∃sl,h'.get? b=some {o with slots:=sl}:=by
 by_cases hb:b∈fs;·exact p.slot b o e hb m
 ·exact⟨o.slots,p.keep b o e hb m⟩
theorem TC{P:Program}{w:World}{H:Hp}{h h':Heap}{fs xs:List Addr}(x:jN P w H h)(p:Nv fs xs h h')(c:∀b∈fs,H b=none)(nx:∀b∈xs,H b=none):jN P w H h':=λa o e=>by
 have st:∀b u,H b≠none->h.get? b=some u->h'.get? b=some u:=λb u n q=>p.keep b u q (λz=>n (c b z)) λz=>n (nx b z);refine(x a o e).mP (λb u hb q=>st b u ?_ q) (λ_ q=>q) λ_ _ q=>q;rcases hb with z|z;·rw[z,e];simp
 ·rw[z];simp
structure Sq(X:Cx)(pins:List (Addr×Obj))(H:Hp)(b:Addr):Prop where
 un:H b=none
 new:X.cC.heap.get? b=none
 loc:b≠X.env.locals
 cel:∀x c,X.env.cells.lookup x=some c->c≠b
 pin:∀p∈X.pn++pins,p.1≠b
section
variable{X:Cx}{pins:List (Addr×Obj)}{σ:L2.St}{H H':Hp}{s s':Shared}{h':Heap}{a:Addr}
theorem m9(I:Inv X pins σ H s)(e:s.heap.get? a=none)(d:a∉X.ex)(hn:H' a=none):Sq X pins H' a:=by
 refine⟨hn,?_,λz=>?_,λx c q z=>?_,λp hp z=>?_⟩;·cases q:X.cC.heap.get? a with|none=>rfl|some o=>obtain⟨o',z⟩:=I.base.there a o q d;rw[e]at z;cases z
 ·obtain⟨m,⟨o,_,_,b,_⟩,_⟩:=I.loc;rw[<-z,e]at b;cases b
 ·obtain⟨v,o,b,_⟩:=I.cell x c q;rw[z,e]at b;cases b
 ·have :=(I.pin p hp).1;rw[z,e]at this;cases this
theorem Inv.stp{ch:List Addr}(I:Inv X pins σ H s)(p:Nv (jQ X.stack) ch s.heap h')(hc:∀b∈ch,Sq X pins H b):Inv X pins σ H {s with heap:=h'}:=by
 have h:∀b o,X.cC.heap.get? b=some o->b∉ch:=λb o e z=>by rw[(hc b z).new]at e;cases e
 have w:∀b o,X.cC.heap.get? b=some o->b∉X.fs->b∉jQ X.stack:=λb o e hb z=>by
  rcases List.mem_cons.mp (I.gD b z)with q|q;·have :=bT e;rw[q]at this;exact absurd this (Nat.not_lt.mpr I.ok.above)
  ·exact hb q
 have cellK:∀x c,X.env.cells.lookup x=some c->∀v,s.heap.IsCell c v->h'.IsCell c v:=λx c e v⟨o,g,hd⟩=>by obtain⟨sl,q⟩:=p.any g λz=>(hc c z).cel x c e rfl;exact⟨_,q,hd⟩
 refine⟨I.ok,I.os,I.bare,⟨λb o e n hb f=>?_,λb o e n hb f=>?_,λb o e n f=>I.base.free b o e n f,λb o e f=>?_,I.base.xJ,I.base.qZ,I.base.qY⟩,?_,λx c e=>?_,I.free,I.fe,λq hq=>?_,TC I.b9 p I.BY λb hb=>(hc b hb).un,I.len⟩;·exact p.keep b o (I.base.keep b o e n hb f) (w b o e hb) (h b o e)
 ·obtain⟨sl,e1⟩:=I.base.slot b o e n hb f;obtain⟨y,e2⟩:=p.any e1 (h b o e);exact⟨y,e2⟩
 ·obtain⟨o',e1⟩:=I.base.there b o e f;obtain⟨sl,e2⟩:=p.any e1 (h b o e);exact⟨_,e2⟩
 ·obtain⟨m,⟨o,es,ep,g,r⟩,hl⟩:=I.loc;obtain⟨sl,t⟩:=p.any g λz=>(hc _ z).loc rfl;refine⟨m,⟨_,es,ep,t,r⟩,λi x v e1 e2 e3=>?_⟩;obtain⟨u,r,l⟩:=hl i x v e1 e2 e3;refine⟨u,r,?_⟩;rcases l with l|⟨k,c,e,z⟩;·exact .inl l
  ·exact .inr ⟨k,c,e,cellK x c e _ z⟩
 ·obtain⟨v,z⟩:=I.cell x c e;exact⟨v,cellK x c e v z⟩
 ·obtain⟨e,n,ne,j,d⟩:=I.pin q hq;exact⟨p.keep q.1 q.2 e (λz=>(List.mem_cons.mp (I.gD q.1 z)).elim ne j) λz=>(hc q.1 z).pin q hq rfl,n,ne,j,d⟩
end
structure Tu(X:Cx)(pins:List (Addr×Obj))(H:Hp)(s:Shared)(a C T:Addr)(c fl:Value):Prop where
 ex:Ex s.heap a C (.ref T) c
 tb:Tb s.heap T fl
 ne:T≠a
 fa:Sq X pins H a
 fT:Sq X pins H T
noncomputable def gv(P:Program)(w:World):oJ:=λhh outer H s E e s'=>∃(a C T:Addr)(c:Value)(H':Hp),e= .ref a/\s'.os=s.os/\AllBare s'.gens/\Un (jQ outer) [] H H' s.heap s'.heap/\jN P w H' s'.heap/\Ex s'.heap a C (.ref T) c/\(hh=none->c= .none)/\Tb s'.heap T .none/\T≠a/\H' a=none/\H' T=none/\s.heap.get? a=none/\s.heap.get? T=none/\E (.ref C) none H'
section
variable{X:Cx}{pins:List (Addr×Obj)}{σ:L2.St}{H:Hp}{s s':Shared}{E:XK}{e:Value}{hh:Option Value}
theorem OX(I:Inv X pins σ H s)(d:X.ex=[])(h:gv X.prog X.w hh X.stack H s E e s'):∃a C T c H',e= .ref a/\Inv X pins σ H' s'/\Tu X pins H' s' a C T c .none/\(hh=none->c= .none)/\E (.ref C) none H':=by obtain⟨a,C,T,c,H',rfl,os,bare,un,b9,ex,hc,tb,ne,g,f,fa,fT,q⟩:=h;refine⟨a,C,T,c,H',rfl,I.Ol os un b9 bare (λb z=>absurd z (by simp)),⟨ex,tb,ne,m9 I fa (by rw[d];simp) g,m9 I fT (by rw[d];simp) f⟩,hc,q⟩
end
section
variable{P:Program}{w:World}{K:PySem.W.Frag}{mg:Str->Option Value}{base:Heap}{N:List Str}{qual:Str}{sc:Scope}{f:Addr}{cd:Value}{A:Around}{outer:List Env}{cC:Shared}{H₀:Hp}{E:XK}
theorem QX{σ:L2.St}{H:Hp}{s:Shared}{pins:List (Addr×Obj)}{a C T:Addr}{c:Value}{h':Heap}{ch:List Addr}(I:Inv (fh (gv P w) P w K mg base N qual sc f cd A outer cC H₀ E) pins σ H s)(p:Nv (jQ (fh (gv P w) P w K mg base N qual sc f cd A outer cC H₀ E).stack) ch s.heap h')(e:∀b∈ch,Sq (fh (gv P w) P w K mg base N qual sc f cd A outer cC H₀ E) pins H b)(fa:Sq (fh (gv P w) P w K mg base N qual sc f cd A outer cC H₀ E) pins H a)(ex:Ex h' a C (.ref T) c)(tb:Tb h' T .none)(d:s.heap.get? T=none)(ne:T≠a)(hc:A.handled=none->c= .none)(q:E (.ref C) none H):gv P w A.handled outer H₀ cC E (.ref a) {s with heap:=h'}:=by have J:=Inv.stp I p e;exact⟨a,C,T,c,H,rfl,J.os,J.bare,J.base,J.b9,ex,hc,tb,ne,fa.un,nu I.b9 d,fa.new,(m9 (H':=H) I d (by show T∉[];simp) (nu I.b9 d)).new,q⟩
theorem Z5{σ:L2.St}{H:Hp}{s:Shared}{pins:List (Addr×Obj)}{a C T:Addr}{c:Value}(I:Inv (fh (gv P w) P w K mg base N qual sc f cd A outer cC H₀ E) pins σ H s)(F:Tu (fh (gv P w) P w K mg base N qual sc f cd A outer cC H₀ E) pins H s a C T c .none)(hc:A.handled=none->c= .none)(q:E (.ref C) none H):(fh (gv P w) P w K mg base N qual sc f cd A outer cC H₀ E).xe (.ref a) s:=by
 refine FN I.ok.frames I.stack rfl F.ex F.tb F.ne λh' i d e g h p=>?_;exact QX (ch:=[a,T]) I p (λb hb=>by
  rcases List.mem_cons.mp hb with z|z;·rw[z];exact F.fa
  ·rw[List.mem_singleton.mp z];exact F.fT) F.fa d e g h hc q
theorem dN{N:List Str}:Passes (gv P w) (fh (gv P w) P w K mg base N qual sc f cd A outer cC H₀ E) E:=λpins σ H s e s' I h=>by obtain⟨a,C,T,c,H',rfl,J,F,hc,q⟩:=OX I rfl h;exact Z5 J F hc q
theorem xh{σ:L2.St}{H:Hp}{s:Shared}{pins:List (Addr×Obj)}{a C:Addr}{h':Heap}(I:Inv (fh (gv P w) P w K mg base N qual sc f cd A outer cC H₀ E) pins σ H s)(m:MadeX s.heap h' a C A.handled)(q:E (.ref C) none H):(fh (gv P w) P w K mg base N qual sc f cd A outer cC H₀ E).xe (.ref a) {s with heap:=h'}:=by have J:Inv (fh (gv P w) P w K mg base N qual sc f cd A outer cC H₀ E) pins σ H {s with heap:=h'}:=I.kept (t':=s.toks) m.keeps;obtain⟨oe,vs,t,c,e1,e2,e3,e4,d,e,g⟩:=m.there;have fa:Sq (fh (gv P w) P w K mg base N qual sc f cd A outer cC H₀ E) pins H a:=m9 I m.new (by show a∉[];simp) (nu I.b9 m.new);refine EI J.ok.frames J.stack rfl ⟨oe,vs, .ref t,e1,e2,e3,e4,d,e⟩ λn l h i j k p=>?_;exact QX (ch:=[a]) J p (λb hb=>by rw[List.mem_singleton.mp hb];exact fa) fa h i j k g q
theorem WE{N:List Str}:PassesOwn (model P w) (fh (gv P w) P w K mg base N qual sc f cd A outer cC H₀ E).A (fh (gv P w) P w K mg base N qual sc f cd A outer cC H₀ E).env (fh (gv P w) P w K mg base N qual sc f cd A outer cC H₀ E).xe:=PassesOwn.leaving
end
theorem Df.Sf{P:Program}{w:World}{K:PySem.W.Frag}{mg:Str->Option Value}{x:Str}{st:Stmt}{N ps:List Str}{k:Nat}{sp:Sp}(D:Df K mg x st ps)(S:aT N ps (ar st))(len:∀vs H Q E,sp vs H Q E->vs.length=ps.length)(a:∀(base:Heap)(f:Addr)(cS:Value)(A:Around)(outer:List Env)(s:Shared)(H:Hp)(vs:List V)(Q:VK)(E:XK),da k (A.deeper (envOfC x (ar st) s.heap.objs.size f cS))->sp vs H Q E->∃t,iz (fh (gv P w) P w K mg base N x (ar st) f cS A outer s H E) (cW st) t/\t {nx:=λ_ H'=>Q .aW H',rt:=Q} (start N vs) H):bp P w K mg (gv P w) x (k+1) ps sp:=by obtain⟨f,fd,F,m,b⟩:=D;refine⟨f,fd,λbase=>?_,m,F.kp,b⟩;obtain⟨oc,od,kV,doc,pm,an,cS,ct,Fn,rfl,g,c⟩:=F.ex;exact JZ g c S len λA outer s H vs Q E d e=>a base f cS A outer s H vs Q E d e
noncomputable abbrev zr(X:Cx)(a:Addr)(oe:Obj)(b:Bool):Cx:={X with A:=X.A.mark (some (.ref a)),calm:=b,pn:=(a,oe)::X.pn,xe:=λ_ _=>False}
section
variable{X:Cx}{pins:List (Addr×Obj)}{σ:L2.St}{H:Hp}{s:Shared}{a:Addr}{oe:Obj}{cm:Bool}
theorem aba(ok:X.Ok)(hc:cm=true->∃vs,oe.data= .fields vs/\vs[2]?=some .none):(zr X a oe cm).Ok:=⟨ok.mod,ok.kind,ok.glob,ok.blt,ok.above,ok.inj,ok.has,ok.UB,λh=>let⟨vs,e1,e2⟩:=hc h; .inr ⟨a,oe,vs,rfl, .inr d4,e1,e2⟩,ok.frames,ok.YA,ok.YF,ok.bs,ok.FD,ok.zq,ok.A0,ok.jw,ok.Sh⟩
theorem Xf(I:Inv X pins σ H s){vs:Array Value}(e:s.heap.get? a=some oe)(d:oe.data= .fields vs)(F:Sq X pins H a)(hc:cm=true->∃vs,oe.data= .fields vs/\vs[2]?=some .none):Inv (zr X a oe cm) pins σ H s:=by
 refine⟨aba I.ok hc,I.os,I.bare,I.base,I.loc,I.cell,I.free,I.fe,λp hp=>?_,I.b9,I.len⟩;rcases List.mem_cons.mp (show p∈(a,oe)::(X.pn++pins)from hp)with z|z;·rw[z];exact⟨e,F.un,F.loc,OK I.jw e d,λv q=>by rw[d]at q;cases q⟩
 ·exact I.pin p z
theorem iq(ok:X.Ok)(I:Inv (zr X a oe cm) pins σ H s):Inv X pins σ H s:=⟨ok,I.os,I.bare,I.base,I.loc,I.cell,I.free,I.fe,λp hp=>I.pin p (dW _ hp),I.b9,I.len⟩
theorem acq(ok:X.Ok){D:Ends}{f:Flow}(h:SP (zr X a oe cm) pins D f s):SP X pins D f s:=by cases f with|next=>obtain⟨b,H',I,q⟩:=h;exact⟨b,H',iq ok I,q⟩|brk=>obtain⟨b,H',I,q⟩:=h;exact⟨b,H',iq ok I,q⟩|cont=>obtain⟨b,H',I,q⟩:=h;exact⟨b,H',iq ok I,q⟩|ret u=>obtain⟨v,b,H',I,r,q⟩:=h;exact⟨v,b,H',iq ok I,r,q⟩
theorem UU{m:Str->Option Value}{i:Nat}{n:Str}{v:Option Value}{h':Heap}{t':Nat}(I:Inv X pins σ H s)(A:X.N.Nodup)(hi:X.N[i]?=some n)(f:X.env.scope.names.lookup n=some .local)(hn:s.heap.Ns X.env.locals m)(hl:∀(i:Nat)(x:Str)(v:V),X.N[i]?=some x->σ[i]?=some (some v)->Vis X.env.scope x->∃u,RelV v u/\Look X.env s.heap m x u)(w:h'.Ns X.env.locals (λx=>if x=n then v else m x))(C:Heap.SameBut X.env.locals s.heap h'):Inv X pins (σ.set i none) H {s with heap:=h',toks:=t'}:=by
 have g:∀b o,b≠X.env.locals->s.heap.get? b=some o->h'.get? b=some o:=λb o n e=>(C.2 b n).trans e;have h:∀b o,X.cC.heap.get? b=some o->b≠X.env.locals:=λb o e=>eg (gK (bT e) I.ok.above);have cellK:∀x c,X.env.cells.lookup x=some c->∀v,s.heap.IsCell c v->h'.IsCell c v:=λx c e v⟨o,B,hd⟩=>⟨o,g c o (I.Uh x c e) B,hd⟩;obtain⟨K,_,_,J,_⟩:=id w;refine⟨I.ok,I.os,I.bare,⟨λb o e n hb f=>g b o (h b o e) (I.base.keep b o e n hb f),λb o e n hb f=>?_,I.base.free,λb o e f=>?_,I.base.xJ,I.base.qZ,I.base.qY⟩,⟨_,w,λj y G e1 e2 e3=>?_⟩,λx c e=>?_,I.free,I.fe,λp hp=>?_,λb u e=>?_,by simpa using I.len⟩;·obtain⟨sl,q⟩:=I.base.slot b o e n hb f;exact⟨sl,g b _ (h b o e) q⟩
 ·obtain⟨o',q⟩:=I.base.there b o e f;exact⟨o',g b _ (h b o e) q⟩
 ·have t:j≠i:=λz=>by rw[z]at e2;rw[List.getElem?_set_self']at e2;cases q:σ[i]?<;>rw[q]at e2<;>simp at e2
  rw[List.getElem?_set_ne (Ne.symm t)]at e2;obtain⟨u,r,l⟩:=hl j y G e1 e2 e3;have D:y≠n:=λz=>t (yj A (z▸e1) hi);refine⟨u,r,?_⟩;rcases l with⟨k,l⟩|⟨k,c,e,z⟩;·exact .inl ⟨k,by show(if y=n then v else m y)=some u;rw[if_neg D];exact l⟩
  ·exact .inr ⟨k,c,e,cellK y c e _ z⟩
 ·obtain⟨v,z⟩:=I.cell x c e;exact⟨v,cellK x c e v z⟩
 ·obtain⟨e,n,ne,F,d⟩:=I.pin p hp;exact⟨g p.1 p.2 ne e,n,ne,F,d⟩
 ·have E:∀c,H c≠none->c≠X.env.locals:=λc n z=>n (by rw[z];exact I.free);refine(I.b9 b u e).mP (λc o hc q=>g c o (E c ?_) q) (λ_ q=>q) λ_ _ q=>q;rcases hc with z|z;·rw[z,e];simp
  ·rw[z];simp
theorem kN{M:Model}{A:Around}{E:Value->Shared->Prop}{Q:Unit->Shared->Prop}{i:Nat}{n:Str}{f:Pos}(I:Inv X pins σ H s)(c:X.N.Nodup)(hi:X.N[i]?=some n)(b:X.env.scope.names.lookup n=some .local)(h:∀s',Inv X pins (σ.set i none) H s'->Q () s'):wpAny M A (do bindName X.env n .none;unbindBehindTheSuite X.env n f) Q E s:=by obtain⟨m,hn,hl⟩:=id I.loc;refine wpAny_nameGoes_keeps b hn (by rw[I.ok.kind];rfl) λh' v d e=>h _ (UU I c hi b hn hl d e)
end
theorem DI{K:PySem.W.Frag}{prog:Program}{w:World}{A:Around}{E:Value->Shared->Prop}{Q:Bool->Shared->Prop}{s:Shared}{a C c:Addr}{oe:Obj}{b:Bool}(X:K.In s.heap)(k:s.heap.get? a=some oe)(hc:oe.cls= .ref C)(i:nM K c)(e:PySem.W.subIn K (.ref C) (.ref c)=some b)(q:Q b s):wpAny (model prog w) A (excMatches (.ref a) (.ref c)) Q E s:=by
 obtain⟨n,newId,x,FB,l⟩:=i;obtain⟨bm,N,B,D,bs,u,F,sub,m,o,p,k0,k1,k2,k3,y,z,h,r,v,T⟩:=yN X l;have j:(Value.ref c::bm).contains (.type "BaseException")=true:=by rw[List.contains_cons,T.hasType FB.hasBase,Bool.or_true]
 have f:=tc_notTuple;have L:=PySem.W.looks_subIn (M:=model prog w) X e;obtain⟨hp,g,d,t,os⟩:=s;unfold excMatches;repeat(first|with_reducible refine aA (L.at ?_)|(with_reducible refine wpAny_loadPart_at k ?_;rw[hc])|with_reducible refine wpAny_loadPart_at h ?_|(with_reducible refine wpAny_isSubtype_exc h ?_;rw[j])|wp_step)
 cases b<;>(wp_walk;exact q)
noncomputable abbrev TH:=Addr->Addr->TS
def PH(X:Cx)(b:List ExceptHandler)(t:TH):Prop:=∀(pins:List (Addr×Obj))(s:Shared)(σ:L2.St)(H:Hp)(D:Ends)(a C T:Addr)(c:Value),Inv X pins σ H s->Tu X pins H s a C T c .none->(X.A.handled=none->c= .none)->t C a D σ H->wpAny (model X.prog X.w) X.A (handleBy (.ref a) X.env b) (SP X pins D) X.xe s
noncomputable def ad2:TH:=λ_ _ _ _ _=>False
theorem Oi{X:Cx}:PH X [] ad2:=λ_ _ _ _ _ _ _ _ _ _ _ _ h=>h.elim
def Cm(X:Cx)(a:Bool):Prop:=a=true->X.A.handled=none
section
variable{X:Cx}{cm:Bool}
theorem YK{pins:List (Addr×Obj)}{s:Shared}{H:Hp}{a C T:Addr}{c fl:Value}(F:Tu X pins H s a C T c fl)(hc:X.A.handled=none->c= .none)(hm:Cm X cm):∃oe vs,s.heap.get? a=some oe/\oe.cls= .ref C/\oe.data= .fields vs/\(cm=true->∃vs,oe.data= .fields vs/\vs[2]?=some .none):=by obtain⟨oe,vs,a0,e1,e2,e3,e4,d,b⟩:=F.ex;exact⟨oe,vs,e1,e2,e3,λz=>⟨vs,e3,by rw[b,hc (hm z)]⟩⟩
theorem pO{x:Str}{d:Addr}{A B:Pos}{pins:List (Addr×Obj)}{s:Shared}{σ:L2.St}{H:Hp}{a C T:Addr}{c:Value}{b:Bool}{R:Result->Shared->Prop}(o:nM X.K d)(hm:X.mg x=some (.ref d))(u:Gl X x)(t:(x==("__debug__":Str))=false)(I:Inv X pins σ H s)(F:Tu X pins H s a C T c .none)(e:PySem.W.subIn X.K (.ref C) (.ref d)=some b)(h:∀s1,Inv X pins σ H s1->Tu X pins H s1 a C T c .none->R (.ok (if b then .brk else .next)) s1):codeAny (model X.prog X.w) (X.A.mark (some (.ref a))) (.handlers (.ref a) [.ExceptHandler (some (.Name x A)) none [] B] X.env) R s:=by
 obtain⟨oe,vs,a0,e1,e2,e3,e4,k,l⟩:=F.ex;obtain⟨f,ts,f1,f2,m⟩:=F.tb;have g:Inv X ((T,f)::pins) σ H s:=I.vn λp hp=>by
  rcases List.mem_cons.mp hp with z|z;·rw[z];exact⟨f1,F.fT.un,F.fT.loc,OK I.jw f1 f2,λv q=>by rw[f2]at q;cases q⟩
  ·exact I.pin p (j3 _ z)
 have n:Sq X ((T,f)::pins) H a:=⟨F.fa.un,F.fa.new,F.fa.loc,F.fa.cel,λp hp=>by
  rcases List.mem_append.mp hp with z|z;·exact F.fa.pin p (qP _ z)
  ·rcases List.mem_cons.mp z with z|z;·rw[z];exact F.ne
   ·exact F.fa.pin p (j3 _ z)⟩;have j:Inv (zr X a oe false) ((T,f)::pins) σ H s:=Xf g e1 e3 n (λz=>nomatch z);refine codeAny_handlers_test (gm (cL (X:=zr X a oe false) (a:=d) hm u t _ _ _ _ (λv H'=>v= .ref d/\H'=H) j ⟨rfl,rfl⟩) (λv s1 y=>?_) λ_ _ z=>z.elim);obtain⟨w,H',J,r,rfl,rfl⟩:=y;cases(show v=Value.ref d from r);have k1:=(J.pin (a,oe) (by simp)).1;have k2:=(J.pin (T,f) (by simp)).1;have i:Inv X pins σ H' s1:=(iq I.ok J).vn λp hp=>g.ok|>λ_=>(iq I.ok J).pin p (j3 _ (dW _ hp));exact DI i.kI k1 e2 o e (h s1 i ⟨⟨oe,vs,a0,k1,e2,e3,e4,k,l⟩,⟨f,ts,k2,f2,m⟩,F.ne,F.fa,F.fT⟩)
theorem Dx{pins:List (Addr×Obj)}{s:Shared}{σ:L2.St}{H:Hp}{a C T:Addr}{c fl:Value}{A:Around}{E:Value->Shared->Prop}{Q:Unit->Shared->Prop}(I:Inv X pins σ H s)(F:Tu X pins H s a C T c fl)(hc:X.A.handled=none->c= .none)(hm:Cm X cm)(h:∀s1 oe,Inv (zr X a oe cm) pins σ H s1->oe.cls= .ref C->Q () s1):wpAny (model X.prog X.w) A (setFlight (.ref a) none) Q E s:=by
 refine ig F.ex F.tb F.ne λh' g i d=>?_;have p:Nv (jQ X.stack) [T] s.heap h':=⟨λb o e _ m=>(d b (by simpa using m)).trans e,λb o e _ m=>⟨o.slots,(d b (by simpa using m)).trans e⟩⟩;have J:=Inv.stp I p λb hb=>by rw[List.mem_singleton.mp hb];exact F.fT
 have f:Tu X pins H {s with heap:=h'} a C T c .none:=⟨g,i,F.ne,F.fa,F.fT⟩;obtain⟨oe,vs,e1,e2,e3,e4⟩:=YK f hc hm;exact h _ oe (Xf J e1 e3 F.fa e4) e2
noncomputable def hCl(K:PySem.W.Frag)(c:Addr)(ts d:TH):TH:=λC a D σ H=>∃b,PySem.W.subIn K (.ref C) (.ref c)=some b/\if b=true then ts C a D σ H else d C a D σ H
theorem Sy{x:Str}{d:Addr}{v w:Pos}{j:Stmt}{k:List Stmt}{rest:List ExceptHandler}{ts g:TH}(cm:Bool)(n:nM X.K d)(hm:X.mg x=some (.ref d))(r:Gl X x)(o:Cm X cm)(u:∀(a C:Addr)(oe:Obj),oe.cls= .ref C->iz (zr X a oe cm) (j::k) (ts C a))(t:PH X rest g)(p:(x==("__debug__":Str))=false:=by decide):PH X (.ExceptHandler (some (.Name x v)) none (j::k) w::rest) (hCl X.K d ts g):=by
 intro pins s σ H D a C T c I F hc h;obtain⟨b,e,h⟩:=h;refine wpAny_handleBy_cons (pO n hm r p I F e λs1 J i=>?_) (by intro q;cases q);cases b with
  |false=>
   have h:g C a D σ H:=by simpa using h
   exact t pins s1 σ H D a C T c J i hc h
  |true=>
   have h:ts C a D σ H:=by simpa using h
   refine codeAny_handlers_suite (Dx J i hc o λs2 oe l m=>?_);exact gm (u a C oe m pins s2 σ H D l h) (λf y q=>acq I.ok q) λ_ _ z=>z.elim
noncomputable def D1(i:Nat)(D:Ends):Ends:={nx:=λσ H=>D.nx (σ.set i none) H,rt:=D.rt,bk:=λσ H=>D.bk (σ.set i none) H,ct:=λσ H=>D.ct (σ.set i none) H}
noncomputable def hAs(K:PySem.W.Frag)(i:Nat)(c:Addr)(ts d:TH):TH:=λC a D σ H=>∃b,PySem.W.subIn K (.ref C) (.ref c)=some b/\if b=true then ts C a (D1 i D) (σ.set i (some (.ref a))) H else d C a D σ H
theorem acC{x y:Str}{i:Nat}{k:Addr}{P Q:Pos}{p:Stmt}{t:List Stmt}{rest:List ExceptHandler}{ts m:TH}(cm:Bool)(j:X.N.Nodup)(hi:X.N[i]?=some y)(g:X.env.scope.names.lookup y=some .local)(E:nM X.K k)(hm:X.mg x=some (.ref k))(M:Gl X x)(G:Cm X cm)(O:∀(a C:Addr)(oe:Obj),oe.cls= .ref C->iz (zr X a oe cm) (p::t) (ts C a))(N:PH X rest m)(K:(x==("__debug__":Str))=false:=by decide):PH X (.ExceptHandler (some (.Name x P)) (some y) (p::t) Q::rest) (hAs X.K i k ts m):=by
 intro pins s σ H D a C T c I F hc h;obtain⟨b,e,h⟩:=h;refine wpAny_handleBy_cons (pO E hm M K I F e λs1 J o=>?_) (by intro q;cases q);cases b with
  |false=>
   have h:m C a D σ H:=by simpa using h
   exact N pins s1 σ H D a C T c J o hc h
  |true=>
   have h:ts C a (D1 i D) (σ.set i (some (.ref a))) H:=by simpa using h
   refine codeAny_handlers_suite_as (Dx J o hc G λs2 oe w B=>?_);refine iL (X:=zr X a oe cm) (v:= .ref a) w j hi (.inl g) rfl (λR A=>?_) (.inr g);refine gm (O a C oe B pins R _ H (D1 i D) A h) (λf S q=>?_) λ_ _ z=>z.elim;cases f with|next=>obtain⟨n,H',d,q⟩:=q;exact kN (iq I.ok d) j hi g λl L=>⟨_,H',L,q⟩|brk=>obtain⟨n,H',d,q⟩:=q;exact kN (iq I.ok d) j hi g λl L=>⟨_,H',L,q⟩|cont=>obtain⟨n,H',d,q⟩:=q;exact kN (iq I.ok d) j hi g λl L=>⟨_,H',L,q⟩|ret u=>obtain⟨v,n,H',d,r,q⟩:=q;exact kN (iq I.ok d) j hi g λl L=>⟨v,_,H',L,r,q⟩
end
noncomputable abbrev TB:=Ends->(Addr->L2.St->Hp->Prop)->L2.St->Hp->Prop
def BX(X:Cx)(pins:List (Addr×Obj))(G:Addr->L2.St->Hp->Prop)(e:Value)(s':Shared):Prop:=∃(a C T:Addr)(c:Value)(b:L2.St)(H':Hp),e= .ref a/\Inv X pins b H' s'/\Tu X pins H' s' a C T c .none/\(X.A.handled=none->c= .none)/\G C b H'
def PB(X:Cx)(body:List Stmt)(t:TB):Prop:=∀(pins:List (Addr×Obj))(s:Shared)(σ:L2.St)(H:Hp)(D:Ends)(G:Addr->L2.St->Hp->Prop),Inv X pins σ H s->t D G σ H->wpAny (model X.prog X.w) X.A (execs body X.env) (SP X pins D) (BX X pins G) s
noncomputable def aek(tb:TB)(th:TH):TS:=λD σ H=>tb D (λC b H'=>∀a,H' a=none->th C a D b H') σ H
theorem Qr{X:Cx}{body:List Stmt}{h₀:ExceptHandler}{j:List ExceptHandler}{tb:TB}{th:TH}{x:Pos}(t:X.ex=[])(d:X.stack=X.env::X.outer)(hf:X.env.frame=some X.env.locals)(hb:PB X body tb)(hh:PH X (h₀::j) th):PS X (.Try body (h₀::j) [] [] x) (aek tb th):=by
 intro pins s σ H D I h;refine wpAny_Try_except (gm (hb pins s σ H D _ I h) (λf s1 q=>?_) λe s1 q=>?_);·cases f with|next=>exact(by first|exact wpAny_execs_nil q|(rw[execs];exact bB q)|exact bB q)|brk=>exact q|cont=>exact q|ret u=>exact q
 ·obtain⟨a,C,T,c,g,H',rfl,J,F,hc,q⟩:=q;refine zX (by rw[J.ok.frames,d]) (d▸J.stack) hf F.ex F.tb F.ne λh1 T1 y B l k v=>ig (s:={s1 with heap:=h1}) y B k λh2 A E n=>?_;have p:Inv X pins g H' {s1 with heap:=h1}:=Inv.stp J (d▸v) λb hb=>by
   rcases List.mem_cons.mp hb with z|z;·rw[z];exact F.fa
   ·rw[List.mem_singleton.mp z];exact F.fT
  have i:Sq X pins H' T1:=m9 J l (by rw[t];simp) (nu J.b9 l);have w:Nv (jQ X.stack) [T1] h1 h2:=⟨λb o e _ m=>(n b (by simpa using m)).trans e,λb o e _ m=>⟨o.slots,(n b (by simpa using m)).trans e⟩⟩;have r:Inv X pins g H' {s1 with heap:=h2}:=Inv.stp (s:={s1 with heap:=h1}) p w λb hb=>by rw[List.mem_singleton.mp hb];exact i
  exact hh pins _ g H' D a C T1 c r ⟨A,E,k,F.fa,i⟩ hc (q a F.fa.un)
theorem Y6{X:Cx}{x:Str}{k:Nat}{ps:List Str}{sp:Sp}{e:Expr}{es:List Expr}{t:TA}{p g:Pos}{pins:List (Addr×Obj)}{s:Shared}{σ:L2.St}{H:Hp}{Q:VK}{G:Addr->L2.St->Hp->Prop}(F:bp X.prog X.w X.K X.mg (gv X.prog X.w) x k ps sp)(A:da k X.A)(w:Gl X x)(B:X.ex=[])(ha:PA X.QS (e::es) t)(u:(x==("__debug__":Str))=false)(v:starEach (e::es) X.env=(false,eval e X.env)::starEach es X.env)(y:(backTo g (starEach es X.env)).any (·.1)=false)(hc:X.calm=true)(I:Inv X pins σ H s)(h:t σ H λvs i=>sp vs i Q λj _ n=>∃C,j= .ref C/\G C σ n):wpAny (model X.prog X.w) X.A (eval (.Call (.Name x p) (e::es) [] g) X.env) (EP X pins σ Q) (BX X pins G) s:=by obtain⟨f,fd,F,m,kp,b⟩:=F;refine zT (jg I w m ?_ u);refine PySem.W.callWith_K (h₀:=X.base) I.ok.mod.Mt kp (gm (ha g pins s σ H _ (I.yW _) h) (λus s1⟨vs,i,d,r,q⟩=>⟨d.gE.kI,?_⟩) λ_ _ z=>z.elim) v y;refine HR F A b d.gE hc (λe s' hc=>?_) r q;obtain⟨a,C,T,c,H',rfl,J,l,hn,D,o,q⟩:=OX d.gE B hc;cases o;exact⟨a,C,T,c,σ,H',rfl,J,l,hn,q⟩
noncomputable def afn(i:Nat)(sp:Sp)(t:TA):TB:=λD G σ H=>t σ H λvs c=>sp vs c (λv a=>D.nx (σ.set i (some v)) a) λb _ a=>∃C,b= .ref C/\G C σ a
theorem PY{X:Cx}{x y:Str}{i k:Nat}{ps:List Str}{sp:Sp}{e:Expr}{es:List Expr}{t:TA}{p a pos' b:Pos}(g:X.N.Nodup)(hi:X.N[i]?=some y)(u:Loc X.env.scope y)(F:bp X.prog X.w X.K X.mg (gv X.prog X.w) x k ps sp)(o:da k X.A)(m:Gl X x)(r:X.ex=[])(ha:PA X.QS (e::es) t)(q:swapsWith (.Call (.Name x p) (e::es) [] a) (some (.Name y b)) pos'.line X.env=pure false:=by rfl)(hf:X.fn y=true\/X.env.scope.names.lookup y=some .local:=by first|exact .inl rfl|exact .inr rfl|assumption)(j:(x==("__debug__":Str))=false:=by decide)(l:starEach (e::es) X.env=(false,eval e X.env)::starEach es X.env:=by rfl)(n:(backTo a (starEach es X.env)).any (·.1)=false:=by rfl)(hc:X.calm=true:=by rfl):PB X [.Assign [.Name y b] (.Call (.Name x p) (e::es) [] a) pos'] (afn i sp t):=by intro pins s σ H D G I h;refine wpAny_execs_cons (wpAny_Assign_Name (bX (Y6 F o m r ha j l n hc I h) λv s1 A=>?_) q);obtain⟨z,c,d,w,q1⟩:=A;exact iL d g hi u w (λs2 f=>wpAny_execs_nil ⟨_,c,f,q1⟩) hf
structure qW(K:PySem.W.Frag)(C:Addr):Prop where
 ga:PySem.W.findIn K (.ref C) "__getattribute__"=some (some (.builtin "BaseException.__getattribute__"))
 cl:PySem.W.findIn K (.ref C) "__class__"=some (some (.builtin "object.__class__"))
 gt:PySem.W.findIn K (.ref C) "__getattr__"=some none
 ob:PySem.W.mroIn K C (.type "object")=some true
 be:PySem.W.mroIn K C (.type "BaseException")=some true
 is:(PySem.W.clsIn K C).isSome=true
section
variable{prog:Program}{w:World}{A:Around}{E:Value->Shared->Prop}{h:Heap}{g:Array GenState}{d:Drawn}{t:Nat}{os:OsState}{a C:Addr}{o:Obj}{K:PySem.W.Frag}
theorem zN{R:Result->Shared->Prop}(X:K.In h)(G:qW K C)(b:h.get? a=some o)(hc:o.cls= .ref C)(hq:R (.ok (.ret (.ref C))) ⟨h,g,d,t,os⟩):codeAny (model prog w) A (.call (.builtin "getset_descriptor.__get__") ⟨[.builtin "object.__class__", .ref a, .ref C],[]⟩) R ⟨h,g,d,t,os⟩:=by
 have c:(⟨h,g,d,t,os⟩:Shared).TypeIs (.builtin "object.__class__") "getset_descriptor":=F.typeOf_object_class;have L:PySem.W.Looks (model prog w) h (isSubtype (.ref C) (.type (".".intercalate ("object.__class__".cutAt '.').dropLast))) true:=by rw[F.owner_object_class];exact PySem.W.looks_mroIn X G.ob
 refine codeAny_call_builtin F.slot_gs_get.plain F.entry_gs_get (F.slot_gs_get.check _ _ _ _ _ _ _ _ c (F.args_gs_get _ _ _) ?_);repeat(any_goals(first|assumption|(with_reducible refine wpAny_loadPart_at b ?_;rw[hc])|with_reducible refine aA (L.at ?_)|with_reducible refine L.at ?_|wp_step))
 refine⟨Code.quiet_builtin _ (by decide+kernel),codeAny_builtin F.entry_object_class ?_⟩;repeat(any_goals(first|assumption|(with_reducible refine wpAny_loadPart_at b ?_;rw[hc])|wp_step))
theorem rg{tk:Tok}{Q:Fin->Shared->Prop}(X:K.In h)(G:qW K C)(b:h.get? a=some o)(hc:o.cls= .ref C)(hq:Q (.done (.ret (.ref C))) ⟨h,g,d,t,os⟩):wpAny (model prog w) A (Builtin.«object.__getattribute__» ⟨[.ref a, .str "__class__" tk],[]⟩) Q E ⟨h,g,d,t,os⟩:=by
 have i:(⟨h,g,d,t,os⟩:Shared).TypeIs (.builtin "object.__class__") "getset_descriptor":=F.typeOf_object_class;have L:=PySem.W.looks_findIn (M:=model prog w) X G.cl;have c:=F.typeOf_object_class;have e:=F.slot_gs_get.lookup;have f:=F.slot_gs_set.lookup;repeat(any_goals(first|assumption|(with_reducible refine wpAny_loadPart_at b ?_;rw[hc])|with_reducible refine aA (L.at ?_)|with_reducible refine L.at ?_|wp_step))
 refine zN X G b hc ?_;repeat(any_goals(first|assumption|wp_step))
theorem Ce{M:Model}{b:Value}{Q:Unit->Shared->Prop}(X:K.In h)(G:qW K C)(f:h.get? a=some o)(hc:o.cls= .ref C)(hq:Q () ⟨h,g,d,t,os⟩):wpAny M A (checkBuiltinCall "BaseException.__getattribute__" ⟨[.ref a,b],[]⟩) Q E ⟨h,g,d,t,os⟩:=by
 have c:builtinKind "BaseException.__getattribute__"=some .slot:=by decide+kernel
 have e:splitId "BaseException.__getattribute__"=some ("BaseException","__getattribute__"):=by decide+kernel
 have L:=PySem.W.looks_mroIn (M:=M) X G.be;have ha:=F.args_bexc_ga (.ref a) b;simp only[checkBuiltinCall,c,e];refine aA ?_
 ·unfold isInstance;repeat(first|(with_reducible refine wpAny_loadPart_at f ?_;rw[hc])|with_reducible refine aA (L.at ?_)|with_reducible refine L.at ?_|wp_step)
  exact hq
theorem yL{tk:Tok}{R:Result->Shared->Prop}(X:K.In h)(G:qW K C)(b:h.get? a=some o)(hc:o.cls= .ref C)(hq:R (.ok (.ret (.ref C))) ⟨h,g,d,t,os⟩):codeAny (model prog w) A (.call (.builtin "BaseException.__getattribute__") ⟨[.ref a, .str "__class__" tk],[]⟩) R ⟨h,g,d,t,os⟩:=codeAny_call_builtin F.excAttr_ValueError.ga.plain F.entry_bexc_ga (Ce X G b hc (rg X G b hc hq))
theorem BJ{tk:Tok}{Q:Value->Shared->Prop}(X:K.In h)(G:qW K C)(c:h.get? a=some o)(hc:o.cls= .ref C)(hq:Q (.ref C) ⟨h,g,d,t,os⟩):wpAny (model prog w) A (getAttrBy (.ref a) (.str "__class__" tk) false) Q E ⟨h,g,d,t,os⟩:=by
 have f:=F.excAttr_ValueError.ga.bind (.ref a);have e:(Value.builtin "BaseException.__getattribute__"==Value.builtin "object.__getattribute__")=false:=by decide+kernel
 have i:(onTheHeap (Value.ref C)&&Value.builtin "BaseException.__getattribute__"==Value.builtin "object.__getattribute__")=false:=by rw[e];rfl
 have b:=PySem.W.looks_findIn (M:=model prog w) X G.ga;have L2:=PySem.W.looks_findIn (M:=model prog w) X G.gt;repeat(any_goals(first|assumption|(with_reducible refine wpAny_loadPart_at c ?_;rw[hc])|with_reducible refine aA (b.at ?_)|with_reducible refine b.at ?_|with_reducible refine aA (L2.at ?_)|with_reducible refine L2.at ?_|wp_step))
 refine yL X G c hc ?_;repeat(any_goals(first|assumption|wp_step))
theorem zb{Q:Option Value->Shared->Prop}(X:K.In h)(G:qW K C)(b:h.get? a=some o)(hc:o.cls= .ref C)(hq:Q (some (.ref C)) ⟨h,g,d,t+1,os⟩):wpAny (model prog w) A (getAttr? (.ref a) "__class__") Q E ⟨h,g,d,t,os⟩:=by unfold getAttr? getAttrBy?;repeat(any_goals(first|assumption|with_reducible apply BJ X G b hc|wp_step))
theorem pK{K:PySem.W.Frag}{a C:Addr}(G:qW K C):PySem.W.KitX K (.ref a) (.ref C) (λh=>∃o,h.get? a=some o/\o.cls= .ref C)where
 ty:=λM h X⟨o,e,c⟩=>by have :=(PySem.W.Looks.ld (M:=M) (part:=none) e);intro A Q E s k q;exact(by first|exact aA (wpAny_loadPart (k _ _ e) (bB (by rw[c];exact q)))|(unfold typeOf loadHead;exact aA (wpAny_loadPart (k _ _ e) (bB (by rw[c];exact q))))|(unfold typeOf;exact aA (wpAny_loadPart (k _ _ e) (bB (by rw[c];exact q)))))
 it:=λM h X _=>by
  have b:=G.is;unfold PySem.W.clsIn at b;split at b;·rename_i i d' j l f;intro m r p s' k q;unfold isType loadHead;exact aA (wpAny_loadPart (k _ _ (X _ _ f)) (bB q))
  ·cases b
 ne:=λh tp u v n sl X e=>by
  have b:=G.is;unfold PySem.W.clsIn at b;split at b
  ·rename_i i d' j l f;by_cases z:C=tp;·have :=X _ _ f;rw[z,e]at this;cases this
   ·simpa using z
  ·cases b
 ca:=λ{prog w A E Q s}X⟨o,e,c⟩q=>by obtain⟨h,g,d,t,os⟩:=s;exact zb X G e c q
end
section
variable{X:Cx}{pins:List (Addr×Obj)}{σ:L2.St}{H:Hp}{s:Shared}{a:Addr}{D:List (Str×V)}{k:Str}{tk:Tok}{A:Around}{E:Value->Shared->Prop}
theorem Oe{Q:Value->Shared->Prop}(T:lZ X.K a D)(I:Inv X pins σ H s)(h:∀b,RelV ((KTD.datumAt k D).getD .aW) b->Q b {s with toks:=s.toks+1}):wpAny (model X.prog X.w) A (call (.builtin "dict.get") [.ref a, .str k tk]) Q E s:=by
 have ty:=T.typeIs I;refine qO PySem.F.slot_dict_get ty PySem.F.entry_dict_get ?_ (PySem.F.args_dict_get_2 _ _);show wpAny (model X.prog X.w) _ (dictGet a (.str k tk)>>=_) _ _ s;refine aA (C2 T I (λv u e r=>?_) λhn=>?_);·have h:=h u (by rw[e];exact r);exact bB ⟨u,rfl,h⟩
 ·have h:=h .none (by rw[hn];exact rfl);refine aA ?_;unfold Builtin.Dict.missed;rw[T.sys];simp only[Bool.false_eq_true,if_false];exact bB (bB ⟨_,rfl,h⟩)
end
noncomputable def YZ(K:PySem.W.Frag)(td ty:TE):TE:=λσ H Q=>td σ H λx b=>∃a D,x= .ref a/\lZ K a D/\ty σ b λy c=>∃k,y= .str k/\Q ((KTD.datumAt k D).getD .aW) c
theorem Qs{X:Cx}{o e:Expr}{apos eQ:Pos}{td ty:TE}(l:PE X o td)(j:PE X e ty)(m:M1 X o "get" apos e eQ):PE X (.Call (.Attribute o "get" apos) [e] [] eQ) (YZ X.K td ty):=by
 intro pins s σ H Q I h;refine wpAny_Call_method m.base m.few m.line PySem.F.plainAttrs_dict PySem.F.slot_dict_get PySem.F.type_dict_get (bX (l pins s σ H _ I h) λu s1 v=>?_);obtain⟨x,f,c,n,a,D,ex,T,q1⟩:=v;subst ex;obtain rfl:u=Value.ref a:=n;have t1:=T.typeIs c;refine⟨t1,λb q=>?_,?_⟩;·cases q;obtain⟨o,_,_,e,x,_⟩:=T.ex;exact⟨o,c.kI a o e,x.2.1⟩
 rw[m.trees];refine Calls.callWith_builtin rfl (Calls.evalArgs_plain (Calls.spliced_cons (bX (j pins s1 σ f _ c q1) λw s2⟨y,g,d,p,k,i,q2⟩=>Calls.spliced_nil ?_)));subst i;obtain⟨t,rfl⟩:=p;exact Oe T d λz r=>⟨_,g,d.tok _,r,q2⟩
theorem zR:bootBuiltins "ValueError"=some (.type "ValueError"):=by decide+kernel
noncomputable def acM(K:PySem.W.Frag)(a:Addr):It:=⟨λi H=>∃xs x,bH K H a xs/\xs[i]?=some x,λi H v H'=>∃p x,v= .ref p/\H p=none/\H'=upd H p (.tup [.int i,x])/\∀xs,bH K H a xs->xs[i]?=some x,λi H=>∃xs,bH K H a xs/\xs.length=i⟩
structure adT(a e it:Addr)(i:Nat)(h:Heap):Prop where
 e:∃old,IsEnum h e it i old
 it:h.IsListIter it a i
theorem MP{P:Program}{w:World}{K:PySem.W.Frag}{es:List Expr}{k:Nat}{R:Pos}(a n:Nat):Turn P w K (.Tuple es k R) (acM K a) [n+1,n] (n+1) (adT a (n+1) n)where
 mem:=by simp
 obj:=λi h st c hc=>by
  simp only[gF,jf,or_false]at hc;obtain⟨old,e0⟩:=st.e;obtain⟨r,e1,_,G⟩:=st.it;rcases hc with rfl|rfl;·exact⟨_,e0,λv q=>by cases q⟩
  ·exact⟨r,e1,λv q=>by rw[G]at q;cases q⟩
 keep:=λi h h' st kp=>by obtain⟨old,e0⟩:=st.e;obtain⟨r,e1,V⟩:=st.it;exact⟨⟨old,kp _ (by simp) _ e0⟩,⟨r,kp _ (by simp) _ e1,V⟩⟩
 item:=by
  intro X l hw j hc i pins s σ H E I hf st p;subst l hw j;obtain⟨xs,x,q1,C⟩:=p;obtain⟨f,u,t,_⟩:=I.list q1;obtain⟨y,B,Y⟩:=u.get C;obtain⟨old,e0⟩:=st.e;have D:=bT e0;have M:i<f.toArray.size:=by rw[dq];exact(List.getElem?_eq_some_iff.mp B).1
  have g:∀d∈[n+1,n],a≠d:=λd hd=>oQ I q1 (hf d hd);have N:∀d∈[n+1,n],d∉lS X.A.in1:=λd hd z=>I.SG hc (hf d hd).2.2.2.1 (hf d hd).2.2.2.2.2 d (oj z) rfl;have m:∀d∈[n+1,n],∀a,X.A.in1.handled=some (.ref a)->a≠d:=λd hd=>I.SG hc (hf d hd).2.2.2.1 (hf d hd).2.2.2.2.2;have L:n+1∉(n::a::lS X.A.in1):=by simp only[gF,not_or];exact⟨by lia,Ne.symm (g (n+1) (by simp)),N (n+1) (by simp)⟩
  refine wpAny_pyNext_enum_itemD (iG n a (g n (by simp)) (m n (by simp)) f.toArray) e0 ⟨st.it,t.isList,I.hb hc⟩ M (Nat.succ_ne_self n) L λF h1 tk ex Z s1 S sz kp=>?_;have ex:f.toArray[i]?=some F:=ex;have ex:y=F:=by rw[List.getElem?_toArray,B]at ex;exact Option.some.inj ex
  subst ex;refine⟨_,rfl,wpAny_letOwnedTupleGo_enum (s:={s with heap:=h1,toks:=tk+1}) Z λh2 z2 sb=>?_⟩;have lt:∀d∈[n+1,n],d<s.heap.objs.size:=λd hd=>by
   have :d<=n+1:=by simp at hd;lia
   exact Nat.lt_of_le_of_lt this D
  have up:∀c o,c≠n+1->h1.get? c=some o->h2.get? c=some o:=λc o b e=>(sb.2 c b).trans e;have U:h2.get? s.heap.objs.size=some {cls:= .type "tuple",data:= .seq #[.int i tk,y]}:=up _ _ (Nat.ne_of_gt D) S;refine⟨.ref s.heap.objs.size,_,zW (s:=s) (h':=h2) (t':=tk+1) (ch:=[n+1,n]) (T:=s.heap.objs.size) (o:= .tup [.int i,x]) I (λc o b e=>?_) hf (bK _) ?_,rfl,⟨_,x,rfl,I.b9.fresh (bK _),rfl,λxs' a1=>?_⟩,?_,λd hd=>?_⟩;·simp only[gF,jf,or_false,not_or]at b;exact up c o b.1 (kp c o b.1 b.2 e)
  ·exact⟨(cN rfl),[.int i tk,y], .cons ⟨tk,rfl⟩ (.cons Y .nil),⟨_,U,rfl,_,rfl⟩⟩
  ·rw[I.mw a1 q1];exact C
  ·obtain⟨⟨O,J,W⟩,_⟩:=s1;refine⟨⟨_,by simpa using z2⟩,⟨O,up _ _ (by lia) J,W⟩⟩
  ·rw[aZ (eg (lt d hd))];exact(hf d hd).1
 done:=by
  intro X l hw j hc i pins s σ H E I hf st p;subst l hw j;obtain⟨xs,q1,hl⟩:=p;obtain⟨f,u,t,_⟩:=I.list q1;obtain⟨old,e0⟩:=st.e;have g:∀d∈[n+1,n],a≠d:=λd hd=>oQ I q1 (hf d hd);have m:∀d∈[n+1,n],∀a,X.A.in1.handled=some (.ref a)->a≠d:=λd hd=>I.SG hc (hf d hd).2.2.2.1 (hf d hd).2.2.2.2.2;have hi:f.toArray.size=i:=by rw[dq,<-u.length];exact hl
  subst hi;refine wpAny_pyNext_enum_endD (iG n a (g n (by simp)) (m n (by simp)) f.toArray) e0 ⟨st.it,t.isList,I.hb hc⟩ λh1 kp=>⟨rfl,?_⟩;refine JS (t':=s.toks) (ch:=[n+1,n]) I (λc o b e=>?_) hf;simp only[gF,jf,or_false,not_or]at b;exact kp c o b.2 e
 self:=λA i s Q E st h=>by obtain⟨old,e0⟩:=st.e;exact wpAny_pyIter_enum e0 h
noncomputable def aei(K:PySem.W.Frag)(c:TA):TI:=λσ H R=>c σ H λvs b=>∃a xs,vs=[.ref a]/\bH K b a xs/\R (acM K a) b
theorem Qc{X:Cx}{es:List Expr}{k:Nat}{u:Pos}{a:Expr}{g:TA}{p f:Pos}(l:Gl X "enumerate")(hm:X.mg "enumerate"=none)(ha:PA X [a] g)(m:starEach [a] X.env=[(false,eval a X.env)]:=by rfl):PI X (.Tuple es k u) (.Call (.Name "enumerate" p) [a] [] f) (aei X.K g):=by
 intro pins s σ H R I h;refine Call_ (lT I l hm boot_enumerate (PyProof.Rows.callWith_type1 (bX (ha f pins s σ H _ I h) λus s1⟨vs,c,b,o,q1⟩=>?_) (by rw[m];rfl) (by rfl)));obtain⟨a1,xs,e,k1,q⟩:=q1;subst e;obtain⟨x,rfl,r⟩:=Vals.one o;cases r;obtain⟨v,w,n,_⟩:=b.list k1;refine call_enumerate_list n.isList λh1 i t sz kp=>?_;refine wpAny_pyIter_enum (s:={s1 with heap:=h1}) i ?_;have j:Inv X pins σ c {s1 with heap:=h1}:=b.kept (t':=s1.toks) kp;refine⟨_,_,_,_,c,rfl,j,MP a1 s1.heap.objs.size,⟨⟨_,i⟩,t⟩,λd hd=>?_,q⟩;have :s1.heap.objs.size<=d:=by simp only[gF,jf,or_false]at hd;rcases hd with z|z<;>rw[z]<;>first|exact Nat.le_add_right _ _|exact bK _
 exact b.QM this (b.b9.fresh this)
theorem gu{CX:oJ}{P:Program}{w:World}{K:PySem.W.Frag}{mg:Str->Option Value}{base:Heap}{N:List Str}{qual:Str}{scope:Scope}{f:Addr}{cd:Value}{A:Around}{outer:List Env}{s:Shared}{H:Hp}{E:XK}:(fh CX P w K mg base N qual scope f cd A outer s H E).QS.K=K:=rfl
end L3
end
section
namespace L3
open PySem L2
theorem pb{t1 t2:TS}{D:Ends}{σ:L2.St}{H:Hp}(h:let a:Ends:=D;let b:TS:=t2;bA t1 b a σ H):(bA t1 (t2)) D σ H:=h
theorem Cy{t1 t2 a:TS}{D:Ends}{σ:L2.St}{H:Hp}(h:let b:Ends:=D;let d:TS:=a;let c:TS:=bA t2 d;bA t1 c b σ H):(bA t1 (bA t2 (a))) D σ H:=h
theorem A9{t1 t2 a t4:TS}{D:Ends}{σ:L2.St}{H:Hp}(h:let b:Ends:=D;let e:TS:=t4;let d:TS:=bA a e;let c:TS:=bA t2 d;bA t1 c b σ H):(bA t1 (bA t2 (bA a (t4)))) D σ H:=h
theorem S7{t1 t2 a t4 b:TS}{D:Ends}{σ:L2.St}{H:Hp}(h:let c:Ends:=D;let g:TS:=b;let f:TS:=bA t4 g;let e:TS:=bA a f;let d:TS:=bA t2 e;bA t1 d c σ H):(bA t1 (bA t2 (bA a (bA t4 (b))))) D σ H:=h
theorem MU{t1 t2 a t4 b c:TS}{D:Ends}{σ:L2.St}{H:Hp}(h:let d:Ends:=D;let j:TS:=c;let i:TS:=bA b j;let g:TS:=bA t4 i;let f:TS:=bA a g;let e:TS:=bA t2 f;bA t1 e d σ H):(bA t1 (bA t2 (bA a (bA t4 (bA b (c)))))) D σ H:=h
theorem aev{t1 t2 a t4 b c d:TS}{D:Ends}{σ:L2.St}{H:Hp}(h:let e:Ends:=D;let l:TS:=d;let k:TS:=bA c l;let j:TS:=bA b k;let i:TS:=bA t4 j;let g:TS:=bA a i;let f:TS:=bA t2 g;bA t1 f e σ H):(bA t1 (bA t2 (bA a (bA t4 (bA b (bA c (d))))))) D σ H:=h
theorem afi{t1 t2 a t4 b c d e:TS}{D:Ends}{σ:L2.St}{H:Hp}(h:let f:Ends:=D;let n:TS:=e;let m:TS:=bA d n;let l:TS:=bA c m;let k:TS:=bA b l;let j:TS:=bA t4 k;let i:TS:=bA a j;let g:TS:=bA t2 i;bA t1 g f σ H):(bA t1 (bA t2 (bA a (bA t4 (bA b (bA c (bA d (e)))))))) D σ H:=h
theorem abp{t1 t2 d t4 e f g i j a b c:TS}{D:Ends}{σ:L2.St}{H:Hp}(h:let k:Ends:=D;let n:TS:=c;let m:TS:=bA b n;let l:TS:=bA a m;let v:TS:=bA j l;let u:TS:=bA i v;let t:TS:=bA g u;let s:TS:=bA f t;let r:TS:=bA e s;let q:TS:=bA t4 r;let p:TS:=bA d q;let o:TS:=bA t2 p;bA t1 o k σ H):(bA t1 (bA t2 (bA d (bA t4 (bA e (bA f (bA g (bA i (bA j (bA a (bA b (c)))))))))))) D σ H:=h
end L3
end
section
namespace KM
theorem d0{t:D}{n:Nat}(h:depth t+0<=n):depth t<=n:=h
theorem q0{x:PySem.Str}{k n:Nat}(h:k+1<=n):depth (.tup [.str x])+k<=n:=by simp only[depth,aD];lia
theorem q1{x:PySem.Str}{a:D}{k n:Nat}(h:depth a+(k+1)<=n):depth (.tup [.str x,a])+k<=n:=by simp only[depth,aD];lia
theorem q2{x:PySem.Str}{a b:D}{k n:Nat}(h1:depth a+(k+1)<=n)(h2:depth b+(k+1)<=n):depth (.tup [.str x,a,b])+k<=n:=by simp only[depth,aD];lia
theorem q3{x:PySem.Str}{a b c:D}{k n:Nat}(h1:depth a+(k+1)<=n)(h2:depth b+(k+1)<=n)(h3:depth c+(k+1)<=n):depth (.tup [.str x,a,b,c])+k<=n:=by simp only[depth,aD];lia
theorem q4{x:PySem.Str}{a b c d:D}{k n:Nat}(h1:depth a+(k+1)<=n)(h2:depth b+(k+1)<=n)(h3:depth c+(k+1)<=n)(h4:depth d+(k+1)<=n):depth (.tup [.str x,a,b,c,d])+k<=n:=by simp only[depth,aD];lia
end KM
end
section
namespace L3
open PySem L2
theorem by0{P:List Value->Prop}(h:P []):∀us:List Value,us.length=0->P us:=λus e=>by rw[List.length_eq_zero_iff.mp e];exact h
theorem byS{P:List Value->Prop}{n:Nat}(h:∀a us,us.length=n->P (a::us)):∀us:List Value,us.length=n+1->P us|[],e=>nomatch e|a::us,e=>h a us (Nat.succ.inj e)
theorem iU{P:List Value->Prop}(h:∀a,P [a]):∀us:List Value,us.length=1->P us:=byS λa=>by0 (h a)
theorem FF{P:List Value->Prop}(h:∀a b,P [a,b]):∀us:List Value,us.length=2->P us:=byS λa=>iU (h a)
theorem GZ{P:List Value->Prop}(h:∀a b c,P [a,b,c]):∀us:List Value,us.length=3->P us:=byS λa=>FF (h a)
theorem by4{P:List Value->Prop}(h:∀a b c d,P [a,b,c,d]):∀us:List Value,us.length=4->P us:=byS λa=>GZ (h a)
theorem VM{P:List Value->Prop}(h:∀a b c d e,P [a,b,c,d,e]):∀us:List Value,us.length=5->P us:=byS λa=>by4 (h a)
theorem by6{P:List Value->Prop}(h:∀a b c d e f,P [a,b,c,d,e,f]):∀us:List Value,us.length=6->P us:=byS λa=>VM (h a)
def cA(K:PySem.W.Frag)(x:Str)(st:Stmt):Prop:=∃(f:Addr)(od an:Option Addr)(sl:Array (Option Value))(oc kV dc pm cd ct:Value),PySem.W.nsIn K mainGlobals x=some (some (.ref f))/\K.lookup f=some ⟨oc,od, .func (PySem.W.fnOf x x (gp st) (cW st) (ar st) .none kV dc pm an cd ct),sl⟩/\PySem.W.codeIn K cd x=true/\PySem.W.keepIn K (.ref f)=true
theorem dfi{K:PySem.W.Frag}{x:Str}{st:Stmt}{f:Addr}{od an:Option Addr}{sl:Array (Option Value)}{oc kV dc pm cd ct:Value}(a:PySem.W.nsIn K mainGlobals x=some (some (.ref f)))(l:K.lookup f=some ⟨oc,od, .func (PySem.W.fnOf x x (gp st) (cW st) (ar st) .none kV dc pm an cd ct),sl⟩)(c:PySem.W.codeIn K cd x=true)(k:PySem.W.keepIn K (.ref f)=true):cA K x st:=⟨f,od,an,sl,oc,kV,dc,pm,cd,ct,a,l,c,k⟩
theorem cA.df{K:PySem.W.Frag}{h:Heap}{mg:Str->Option Value}{x:Str}{st:Stmt}{ps:List Str}(D:cA K x st)(X:K.In h)(G:h.Ns mainGlobals mg)(b:∀(kV doc pm:Value)(an:Option Addr)(cS ct:Value)(us:List Value),us.length=ps.length->bindArgs (PySem.W.fnOf x x (gp st) (cW st) (ar st) .none kV doc pm an cS ct) ⟨us,[]⟩=pure (ps.zip us)):Df K mg x st ps:=by obtain⟨f,od,an,sl,oc,kV,dc,pm,cd,ct,a,l,c,k⟩:=D;exact⟨f,_,QY l c k,PySem.W.mg_of X G a,(QY l c k).binds b⟩
end L3
end
theorem L2.da.m{j k:Nat}{A:PySem.Around}(r:L2.da k A)(h:j<=k:=by first|decide|lia):L2.da j A:=r.mono h
section
namespace K23
open PySem L2 L3 KM
abbrev eN:List Str:=["_law_script","_law_tape","_law_deep","_law_near","_law_pool_here"]
abbrev MQ:List Str:=["_law_script","_law_tape","_law_deep","_law_near","_law_pool_here","_law_way"]
abbrev C4:List Str:=["_law_script","_law_tape","_law_many"]
noncomputable def top(i:Nat):Stmt:=PySem.Challenge.pw_keeper_k23_normal.main.body.getD i (.Pass ⟨0,0,0,0⟩)
noncomputable abbrev hU:Stmt:=top 23
noncomputable abbrev iK:Stmt:=top 24
noncomputable abbrev kJ:Stmt:=top 25
noncomputable abbrev gJ:Stmt:=top 26
noncomputable abbrev c_:Stmt:=top 27
noncomputable abbrev kG:Stmt:=top 28
noncomputable abbrev kM:Stmt:=top 29
noncomputable abbrev nV:Stmt:=top 31
noncomputable abbrev jB:Stmt:=top 32
noncomputable abbrev eX:Stmt:=top 33
noncomputable abbrev kL:Stmt:=top 34
noncomputable abbrev eM:Stmt:=top 36
noncomputable abbrev km:Stmt:=top 37
noncomputable abbrev j6:Stmt:=top 38
noncomputable abbrev kD:Stmt:=top 41
noncomputable abbrev gg:Stmt:=top 42
noncomputable abbrev f_:Stmt:=top 43
noncomputable abbrev kK:Stmt:=top 44
noncomputable abbrev eZ:Stmt:=top 45
noncomputable abbrev mH:Stmt:=top 47
noncomputable abbrev jh:Stmt:=top 49
noncomputable abbrev ik:Stmt:=top 50
noncomputable abbrev fk:Stmt:=top 51
noncomputable abbrev jz:Stmt:=top 52
noncomputable abbrev gG:Stmt:=top 53
noncomputable abbrev iS:Stmt:=top 54
noncomputable abbrev gS:Stmt:=top 55
noncomputable abbrev gA:Stmt:=top 56
noncomputable abbrev eV:Stmt:=top 57
noncomputable abbrev eY:Stmt:=top 58
noncomputable abbrev fW:Stmt:=top 59
noncomputable abbrev gO:Stmt:=top 60
noncomputable abbrev iZ:Stmt:=top 61
noncomputable abbrev dM:Stmt:=top 62
noncomputable abbrev hV:Stmt:=top 63
noncomputable abbrev ic:Stmt:=top 64
noncomputable abbrev jH:Stmt:=top 65
noncomputable abbrev jt:Stmt:=top 66
noncomputable abbrev iW:Stmt:=top 67
noncomputable abbrev jy:Stmt:=top 68
noncomputable abbrev ia:Stmt:=top 69
noncomputable abbrev fE:Stmt:=top 70
noncomputable abbrev ie:Stmt:=top 71
noncomputable abbrev kP:Stmt:=top 72
noncomputable abbrev iE:Stmt:=top 73
noncomputable abbrev ji:Stmt:=top 74
noncomputable abbrev iY:Stmt:=top 75
noncomputable abbrev J6:Stmt:=top 76
structure wY where
 none_:Unit:=()
 ym:Addr
 j2:Addr
 JN:Addr
 fJ:Addr
 cx:Addr
 cb:Addr
 jG:Addr
 Aw:Addr
 xy:Addr
 QJ:Addr
 NH:Addr
 JH:Addr
 Li:Addr
 R5:Addr
 Rh:Addr
 Om:Addr
 Ar:Addr
 zU:Addr
structure Mg(mg:Str->Option Value)(t:wY):Prop where
 Ca:mg "ValueError"=none
 aat:mg "bool"=none
 YY:mg "dict"=none
 Fd:mg "enumerate"=none
 O_:mg "int"=none
 bZ:mg "isinstance"=none
 gQ:mg "len"=none
 AY:mg "list"=none
 HX:mg "max"=none
 ab7:mg "min"=none
 f9:mg "range"=none
 Bn:mg "tuple"=none
 ac3:mg "zip"=none
 g_MOST_KNOTS:∃tk,mg "MOST_KNOTS"=some (.int 600 tk)
 g_MOST_DEEP:∃tk,mg "MOST_DEEP"=some (.int 40 tk)
 g_MOST_VARIABLE:∃tk,mg "MOST_VARIABLE"=some (.int 99 tk)
 g_KIDS_DUE:mg "KIDS_DUE"=some (.ref t.ym)
 g_BINDER_OVER:mg "BINDER_OVER"=some (.ref t.j2)
 g_RULES:mg "RULES"=some (.ref t.JN)
 g_KeeperError:mg "KeeperError"=some (.ref t.fJ)
 g_Great:mg "Great"=some (.ref t.cx)
 g_NoPlace:mg "NoPlace"=some (.ref t.cb)
 g_NoStep:mg "NoStep"=some (.ref t.jG)
 g_Dry:mg "Dry"=some (.ref t.Aw)
 g_NoVariable:mg "NoVariable"=some (.ref t.xy)
 g_NoName:mg "NoName"=some (.ref t.QJ)
 g_NotAll:mg "NotAll"=some (.ref t.NH)
 g_NotSome:mg "NotSome"=some (.ref t.JH)
 g_NotSame:mg "NotSame"=some (.ref t.Li)
 g_Unlike:mg "Unlike"=some (.ref t.R5)
 g_NoText:mg "NoText"=some (.ref t.Rh)
 g_NoWord:mg "NoWord"=some (.ref t.Om)
 g_TwiceTold:mg "TwiceTold"=some (.ref t.Ar)
 g_NotClosed:mg "NotClosed"=some (.ref t.zU)
seal L2.PE L2.PS L2.iz L2.PT L2.PW L2.PA L2.PG L2.AR L2.PI L2.PC L2.PO L2.An L2.PK L3.AV
variable{P:Program}{w:World}{K:PySem.W.Frag}{mg:Str->Option Value}{base:Heap}{f:Addr}{fd:FuncData}
variable{P:Program}{w:World}{K:PySem.W.Frag}{mg:Str->Option Value}{base:Heap}{f:Addr}{fd:FuncData}
noncomputable def aaY:List (Key×V):=[(.inr "nat", .str ""),(.inr "none", .str ""),(.inr "zero", .str ""),(.inr "all", .str "kk"),(.inr "some", .str "kk"),(.inr "same", .str "ktt"),(.inr "fun", .str "kt"),(.inr "app", .str "tt")]
noncomputable def abX:List (Key×V):=[(.inr "next", .str "t"),(.inr "rec", .str "kttt"),(.inr "like", .str "kt"),(.inr "carry", .str "ktt"),(.inr "never", .str "kt"),(.inr "pair", .str "ktt"),(.inr "first", .str "t")]
noncomputable def abD:List (Key×V):=[(.inr "second", .str "t"),(.inr "var", .str "n"),(.inr "name", .str "w")]
noncomputable def dJ(x:Str):V:=match fb aaY (Sum.inr x:Key)with|some v=>v|none=>match fb abX (Sum.inr x:Key)with|some v=>v|none=>(fb abD (Sum.inr x:Key)).getD .aW
noncomputable def hZ(w:Str):Bool:=Vu (.str w) [.str "nat", .str "none", .str "all", .str "some", .str "same"]
noncomputable def iB:D->Bool| .int i=>decide (0<=i)|_=>false
mutual noncomputable def bu(nm:D->Bool)(k:Bool):D->Bool
 | .tup (.str w::ps)=>match dJ w with| .str s=>(hZ w==k)&&dZ nm s.cps.toList ps|_=>false
 |_=>false noncomputable def dZ(nm:D->Bool):List Nat->List D->Bool|[],[]=>true|c::cs,p::ps=>(if c=107 then bu nm true p else if c=116 then bu nm false p else if c=110 then iB p else nm p)&&dZ nm cs ps|_,_=>false end
noncomputable def dg(a:D->Bool)(c:Nat)(p:D):Bool:=if c=107 then bu a true p else if c=116 then bu a false p else if c=110 then iB p else a p
theorem aN(a:D->Bool)(c:Nat)(cs:List Nat)(p:D)(ps:List D):dZ a (c::cs) (p::ps)=(dg a c p&&dZ a cs ps):=by rw[dZ];rfl
theorem cX{a:D->Bool}{k:Bool}{w s:Str}{ps:List D}(h1:dJ w= .str s)(h2:hZ w=k)(h3:dZ a s.cps.toList ps=true):bu a k (.tup (.str w::ps))=true:=by rw[bu,h1];simp[h2,h3]
theorem eO:dJ "var"= .str "n":=by decide+kernel
theorem gH:dJ "name"= .str "w":=by decide+kernel
theorem zf:hZ "var"=false:=by decide+kernel
theorem LR:hZ "name"=false:=by decide+kernel
theorem xV:(Str.ofString "n").cps.toList=[110]:=by decide+kernel
theorem JG:(Str.ofString "w").cps.toList=[119]:=by decide+kernel
theorem Ye{b:D->Bool}{z:Int}(a:0<=z)(h1:z<=99):bu b false (.tup [.str "var", .int z])=true:=by refine cX eO zf ?_;rw[xV,aN];simp[dg,iB,a,h1,dZ]
theorem Bb{a:D->Bool}{y:Str}(h:a (.str y)=true):bu a false (.tup [.str "name", .str y])=true:=by refine cX gH LR ?_;rw[JG,aN];simp[dg,h,dZ]
variable{P:Program}{w:World}{K:PySem.W.Frag}{mg:Str->Option Value}{base:Heap}{f fN fM fS:Addr}{fd fdN fdM fdS:FuncData}
noncomputable def w0(k:Bool):Str:=if k then"nat"else"var"
variable{t:wY}
end K23
end
section
namespace K23
open PySem L2 L3 KM
seal L2.PE L2.PS L2.iz L2.PT L2.PW L2.PA L2.PG L2.AR L2.PI L2.PC L2.PO L2.An L2.PK L3.AV
variable{P:Program}{w:World}{K:PySem.W.Frag}{mg:Str->Option Value}{base:Heap}{t:wY}
noncomputable def jx:List (Str×List V):=[("nat",[]),("none",[]),("all",[.str "kind", .str "kind"]),("some",[.str "kind", .str "kind"]),("same",[.str "kind", .str "term", .str "term"]),("var",[]),("fun",[.str "kind", .str "term"]),("app",[.str "term", .str "term"]),("zero",[]),("next",[.str "term"]),("rec",[.str "kind", .str "term", .str "term", .str "term"]),("like",[.str "kind", .str "term"]),("carry",[.str "kind", .str "term", .str "term"]),("never",[.str "kind", .str "term"]),("pair",[.str "kind", .str "term", .str "term"]),("first",[.str "term"]),("second",[.str "term"]),("name",[])]
noncomputable def abj(c:Nat):V:=if c=107 then .str "kind"else .str "term"
noncomputable def VG(r:Str×List V):Bool:=match dJ r.1 with| .str s=>decide (s.cps.size<=4)&&if r.1="var"then decide (s="n")else if r.1="name"then decide (s="w")else s.cps.toList.all (λc=>c==107||c==116)&&decide (r.2=s.cps.toList.map abj)|_=>false
theorem UN:jx.all VG=true:=by decide+kernel
theorem lookup_mem{a:Type}{x:Str}{v:a}:∀{l:List (Str×a)},l.lookup x=some v->(x,v)∈l
 |[],h=>by simp at h
 |(k,u)::l,h=>by
  rw[n9]at h;cases e:x==k with
   |true=>
    rw[e]at h;obtain rfl:x=k:=by simpa using e
    cases h;exact d4
   |false=>rw[e]at h;exact dW _ (lookup_mem h)
theorem lookup_none{a:Type}{x:Str}:∀{l:List (Str×a)},l.lookup x=none->x∉l.map (·.1)
 |[],_=>by simp
 |(k,u)::l,h=>by
  rw[n9]at h;cases e:x==k with
   |true=>rw[e]at h;cases h
   |false=>
    rw[e]at h;have :=lookup_none h;have e:¬x=k:=by simpa using e
    simp only[d7,gF,not_or];exact⟨e,this⟩
inductive Shp(w:Str):Prop where|aW(h1:jx.lookup w=none)(h2:dJ w= .aW)|var(h1:jx.lookup w=some [])(h2:w="var")|name(h1:jx.lookup w=some [])(h2:w="name")|abe(s:Str)(h1:jx.lookup w=some (s.cps.toList.map abj))(h2:dJ w= .str s)(h3:w≠"var")(h4:w≠"name")(h5:∀c∈s.cps.toList,c=107\/c=116)(h6:s.cps.size<=4)
theorem Ss{tab:List (Key×V)}{w:Str}(h:∀k∈tab.map (·.1),k≠Sum.inr w):fb tab (Sum.inr w:Key)=none:=by cases e:fb tab (Sum.inr w:Key)with|none=>rfl|some v=>exact absurd rfl (h _ (SW e))
noncomputable def We(k:Key)(l:List Str):Bool:=match k with| .inr x=>decide (x∈l)| .inl _=>true
theorem shp(w:Str):Shp w:=by
 cases h:jx.lookup w with
  |none=>
   refine .aW h ?_;have i:=lookup_none h;have sub:∀tab:List (Key×V),(tab.map (·.1)).all (λk=>We k (jx.map (·.1)))=true->fb tab (Sum.inr w:Key)=none:=λtab ht=>Ss λk f z=>by subst z;have :=List.all_eq_true.mp ht _ f;simp only[We,decide_eq_true_eq]at this;exact i this
   have e1:=sub aaY (by decide+kernel);have e2:=sub abX (by decide+kernel);have e3:=sub abD (by decide+kernel);unfold dJ;rw[e1,e2,e3];rfl
  |some ds=>
   have m:=lookup_mem h;have g:=List.all_eq_true.mp UN _ m;unfold VG at g;by_cases a:w="var";·subst a;exact .var (by decide+kernel) rfl
   ·by_cases hn:w="name";·subst hn;exact .name (by decide+kernel) rfl
    ·cases e:dJ w with|str s=>rw[e]at g;simp only[a,hn,if_false,cY,List.all_eq_true,Bool.or_eq_true,beq_iff_eq,decide_eq_true_eq]at g;obtain⟨b,c,d⟩:=g;exact .abe s (by rw[h,d]) e a hn c b|_=>rw[e]at g;simp at g
noncomputable def cZ(x:Str):Bool:=decide (x="var")||decide (x="name")
noncomputable def az(x:Str)(ps:List D):List D:=if cZ x=true then[]else ps
def eS:Sp:=λvs H Q _=>∃(x:Str)(ps:List D)(v:V),vs=[v]/\Rep H (.tup (.str x::ps)) v/\ps.length<=10/\∀(a:Addr)(us:List V)(H':Hp),H a=none->aM H H'->H' a=some (.lst us)->bz H' (az x ps) us->Q (.ref a) H'
theorem G8:aT ["thing"] ["thing"] (ar kJ):=⟨rfl,rfl,rfl,by decide+kernel,rfl,by decide+kernel,by decide+kernel⟩
theorem LN(D:Df K mg "kids_of" kJ ["thing"])(M:Mg mg t):bp P w K mg bE "kids_of" (1) ["thing"] eS:=by
 refine D.ok G8 (λvs H Q E h=>?_) (λbase f cS A outer s H vs Q E o h=>?_);·obtain⟨x,ps,v,rfl,_⟩:=h;rfl
 obtain⟨x,ps,v,rfl,r,hl,q⟩:=h;obtain⟨a,us,rfl,ha,v0,us,rfl,⟨rfl,u⟩,g⟩:=r;have n:=g.length;have d:lP (V.str x::us) 0=some (.str x):=aE (j:=0) rfl;have b:bS K H a (.str x::us):=bS.of ha;refine⟨_,(ai (ba (L2.PW.pt (kW (aI bR (aP aR (pv 0) ah (λ_ _=>rfl)) ao (aQ _)) (j1 (aI bR (aP aR (pv 0) ah (λ_ _=>rfl)) ao (aQ _))))) (aj (ay (cq ag))) aO) (aj (ay (fA jE rfl M.AY wR (ae (jS BI (pv 0) (fF ah) dz) ag))))),?_⟩;try dsimp only[gu,m]
 refine pb ?_;intro _ _;have leaf:cZ x=true->0<=sizeLine/\∀p,H p=none->Q (.ref p) (upd H p (.lst [])):=λc=>⟨eB _,λp hp=>q p [] _ hp (aq hp _) ak (by unfold az;rw[if_pos c];exact rfl)⟩;refine⟨_,rfl,a,_,_,_,rfl,rfl,b,d,rfl,_,rfl,?_⟩;refine aY (λc=>?_) (λc=>?_);·refine qR ?_;have c:V.str x=V.str "var":=of_decide_eq_true c;cases c;exact leaf rfl
 refine⟨_,rfl,a,_,_,_,rfl,rfl,b,d,rfl,_,rfl,?_⟩;refine aY (λc2=>?_) (λc2=>?_);·have c2:V.str x=V.str "name":=of_decide_eq_true c2;cases c2;exact leaf (by decide+kernel)
 have k:cZ x=false:=by unfold cZ;have h1:x≠"var":=λz=>c (by rw[z];decide+kernel);have h2:x≠"name":=λz=>c2 (by rw[z];decide+kernel);simp[h1,h2]
 have i:az x ps=ps:=by unfold az;rw[k];rfl
 rw[i]at q;have e:iX (V.str x::us) (some 1) none=us:=by have :=oz (V.str x::us) 1;simpa using this
 refine⟨_,rfl,_,rfl,a,_,rfl,b,λp hp=>?_,λz=>?_⟩;·rw[e];refine⟨p,us,rfl, .inr (bS.of ak),λl hl=>?_⟩;exact q l us _ ((aq hp _).free hl) ((aq hp _).trans (aq hl _)) ak (g.mono ((aq hp _).trans (aq hl _)))
 ·rw[e]at z;exact absurd (congrArg List.length z) (by simp)
theorem nN{a:D->Bool}:∀{cs:List Nat}{ps:List D},dZ a cs ps=true->cs.length=ps.length|[],[],_=>rfl|[],_::_,h=>by simp[dZ]at h|_::_,[],h=>by simp[dZ]at h|c::cs,p::ps,h=>by rw[aN,cY]at h;rw[cF,cF,nN h.2]
noncomputable def ktB(c:Nat):Bool:=!(Builtin.Str.occurrences (Str.ofString "kt") ⟨#[c]⟩ 0 (Str.ofString "kt").length 1).isEmpty
theorem kt1:ktB 107=true:=by decide+kernel
theorem kt2:ktB 116=true:=by decide+kernel
theorem kt3:ktB 110=false:=by decide+kernel
theorem kt4:ktB 119=false:=by decide+kernel
theorem bM{b:D->Bool}{k:Bool}{x:Str}{ps:List D}(h:bu b k (.tup (.str x::ps))=true):∃s,dJ x= .str s/\hZ x=k/\dZ b s.cps.toList ps=true/\s.cps.size<=4/\s.cps.toList.length=ps.length/\(∀c∈s.cps.toList,ktB c=!cZ x)/\(cZ x=false->∀c∈s.cps.toList,c=107\/c=116)/\∃r,jx.lookup x=some r/\r.length=(az x ps).length:=by
 have a:∀s,dJ x= .str s->hZ x=k/\dZ b s.cps.toList ps=true:=λs e=>by rw[bu,e,cY]at h;exact⟨by simpa using h.1,h.2⟩
 cases shp x with
  |aW h1 h2=>rw[bu,h2]at h;simp at h
  |var h1 h2=>subst h2;obtain⟨k1,k2⟩:=a _ eO;refine⟨_,eO,k1,k2,by decide,nN k2,λc hc=>?_,λz=>absurd z (by decide+kernel),_,h1,by unfold az;rw[if_pos (by decide+kernel)];rfl⟩;rw[xV]at hc;rw[List.mem_singleton.mp hc,kt3];decide+kernel
  |name h1 h2=>subst h2;obtain⟨k1,k2⟩:=a _ gH;refine⟨_,gH,k1,k2,by decide,nN k2,λc hc=>?_,λz=>absurd z (by decide+kernel),_,h1,by unfold az;rw[if_pos (by decide+kernel)];rfl⟩;rw[JG]at hc;rw[List.mem_singleton.mp hc,kt4];decide+kernel
  |abe s h1 h2 h3 h4 h5 h6=>
   obtain⟨k1,k2⟩:=a s h2;have d:cZ x=false:=by unfold cZ;simp[h3,h4]
   refine⟨s,h2,k1,k2,h6,nN k2,λc hc=>?_,λ_=>h5,_,h1,?_⟩
   ·rw[d];rcases h5 c hc with z|z<;>rw[z];·exact kt1
    ·exact kt2
   ·unfold az;rw[d,dI,nN k2];rfl
end K23
end
section
namespace K23
open PySem L2 L3 KM PyProof.Rows
seal L2.PE L2.PS L2.iz L2.PT L2.PW L2.PA L2.PG L2.AR L2.PI L2.PC L2.PO L2.An L2.PK L3.AV
variable{P:Program}{w:World}{K:PySem.W.Frag}{mg:Str->Option Value}{base:Heap}{t:wY}
noncomputable def BO:List (Str×V):=[("all", .int 1),("some", .int 1),("fun", .int 1),("rec", .int 0),("carry", .int 0)]
noncomputable def DG(x:Str):V:=(KTD.datumAt x BO).getD .aW
noncomputable def nR(x:Str)(i:Nat):V:=if decide (V.int i=DG x)=true then .int 1 else .int 0
noncomputable def F8(x:Str)(n:Nat):List V:=(List.range n).map (nR x)
def Cj:Sp:=λvs H Q _=>∃(x:Str)(ps:List D)(v:V)(k:Bool),vs=[v]/\Rep H (.tup (.str x::ps)) v/\bu aw k (.tup (.str x::ps))=true/\∀(a:Addr)(H':Hp),aM H H'->H' a=some (.lst (F8 x (az x ps).length))->Q (.ref a) H'
theorem Nf(x:Str)(i:Int):aaH (.int i) (DG x)=true:=by
 unfold DG;cases e:KTD.datumAt x BO with
  |none=>rfl
  |some v=>
   have :v= .int 1\/v= .int 0:=by
    simp only[KTD.datumAt,BO]at e;repeat' split at e
    all_goals first|(cases e;exact .inl rfl)|(cases e;exact .inr rfl)|cases e
   rcases this with z|z<;>rw[z]<;>rfl
theorem qk:aT ["thing","over"] ["thing"] (ar gJ):=⟨rfl,rfl,rfl,by decide+kernel,rfl,by decide+kernel,by decide+kernel⟩
theorem FO(D:Df K mg "binds_of" gJ ["thing"])(M:Mg mg t){as:List Addr}(T:KD K t.ym jx as)(B:lZ K t.j2 BO):bp P w K mg bE "binds_of" (1) ["thing"] Cj:=by
 refine D.ok qk (λvs H Q E h=>?_) (λbase f cS A outer s H vs Q E O h=>?_);·obtain⟨x,ps,v,k,rfl,_⟩:=h;rfl
 obtain⟨x,ps,v,k,rfl,r,wf,q⟩:=h;obtain⟨a,us,rfl,ha,v0,us,rfl,⟨rfl,W⟩,F⟩:=r;have L:=F.length;have m:lP (V.str x::us) 0=some (.str x):=aE (j:=0) rfl;have o:bS K H a (.str x::us):=bS.of ha;obtain⟨X,S,I,U,h4,hlen,J,_,d,C,u⟩:=bM wf;obtain⟨b,y,z⟩:=T.some C;have hn:(az x ps).length<=4:=by
  unfold az;split;·exact eB _
  ·rw[<-hlen];simpa using h4
 refine⟨_,(ai (aF (i:=1) qk.nd rfl (bY rfl) (Qs (cL M.g_BINDER_OVER rfl) (aP aR (pv 0) ah (λ_ _=>rfl)) ⟨rfl,rfl,rfl,rfl⟩)) (aj (ay (oh (N':=["number","over"]) (own:=1) (fr:=[1]) rfl (lF (N:=["thing","over"]) (sc:=ar gJ) rfl rfl rfl (by decide+kernel)) (dR rfl M.f9 (ae (bj bC rfl M.gQ eG (ae (YC (cL M.g_KIDS_DUE rfl) (aP aR (pv 0) ah (λ_ _=>rfl)) (λ_ _=>rfl)) ag)) ag)) (iC (by decide)) (λ_ _ _=>(bL (i:=0) (show List.Nodup (["number","over"]:List Str)by decide+kernel) rfl (Or.inl rfl))) (λ_ _ _=>me) (λ_ _ _=>(ky (aI bR (pv 0) (pv 1) (aQ _)) ah ah)))))),?_⟩;try dsimp only[gu,G]
 refine pb ?_;intro _ _;refine⟨_,_,rfl,B,_,rfl,a,_,_,_,rfl,rfl,o,m,x,rfl,?_⟩;refine⟨_,rfl,a,_,_,_,rfl,rfl,o,m,_,_,x,_,rfl,rfl,T.tab,y,b,_,rfl, .inr (z H),_,rfl,(by show-(2^62)<=((d.length:Nat):Int);lia),(by show((d.length:Nat):Int)<2^62;lia),λp hp=>AA d.length (nR x) hp (by rw[u];exact c8 hn (by decide)) (λi g hi s2=>⟨hi,?_⟩) λg s2 h2=>⟨bK _,?_⟩⟩
 ·rintro Y l⟨rfl,rfl⟩R n;have e0:(0:Int)+(i:Int)=((i:Nat):Int):=by lia
  rw[e0];refine⟨_,rfl,_,rfl,Nf x i,_,rfl,?_⟩;refine aY (λc=>?_) (λc=>?_)
  ·have e:nR x i= .int 1:=by unfold nR;exact if_pos c
   have :=n l (aM.refl _);rw[e]at this;exact this
  ·have e:nR x i= .int 0:=by unfold nR;exact if_neg c
   have :=n l (aM.refl _);rw[e]at this;exact this
 ·rw[u]at h2;exact q p g s2 h2
theorem yy(x:Str):∀ws:List Str,Vu (.str x) (ws.map V.str)=decide (x∈ws)
 |[]=>rfl
 |y::ws=>by
  have a:=yy x ws;unfold Vu at a⊢;rw[d7,List.any_cons,a];show(y==x||decide (x∈ws))=decide (x∈y::ws);by_cases e:y=x;·subst e;simp
  ·have e':¬x=y:=λz=>e z.symm;simp[e,e']
theorem ox:∀{ps:List D}{i:Nat}{p:D},ps[i]?=some p->depth p<=aD ps|[],_,_,e=>by simp at e|p::ps,0,_,e=>by simp at e;subst e;simp only[aD];lia|_::ps,i+1,p,e=>by have :=ox (ps:=ps) (i:=i) (by simpa using e);simp only[aD];lia
end K23
end
section
namespace L3
open PySem PySem.Spec PyProof.Rows L2 KM
theorem Rg{prog:Program}{w:World}{A:Around}{E:Value->Shared->Prop}{s:Shared}{t b:Addr}{ws:List Value}{Q:Value->Shared->Prop}(ht:IsTup s.heap t (([]:List Value)).toArray)(hb:IsTup s.heap b ws.toArray)(h1:Q (.ref b) s):wpAny (model prog w) A (binaryOp .Add (.ref t) (.ref b)) Q E s:=by obtain⟨⟨cls,f,data,sl⟩,d,hc,n,hd⟩:=id ht;obtain⟨⟨j,g,data2,i⟩,e,a,h,c⟩:=id hb;simp only at hc hd a c;subst hc hd a c;exact concat_meets ⟨_,d,rfl⟩ ⟨_,e,rfl⟩ noFill_tuple_add seq_tuple_add PySem.F.slot_tuple_add PySem.F.entry_tuple_add (PySem.F.args_tuple_add_2 _ _) (tuple_addW0 t b _ ws.toArray n h f g sl i (by simp)) ⟨d,e,h1⟩
noncomputable def aaM(K:PySem.W.Frag):R2:=λx y H Q=>∃a b xs c,x= .ref a/\y= .ref b/\bS K H a xs/\bS K H b c/\xs.length+c.length<=sizeLine/\(xs=[]->Q (.ref b) H)/\(xs≠[]->c=[]->Q (.ref a) H)/\(xs≠[]->c≠[]->∀p,H p=none->Q (.ref p) (upd H p (.tup (xs++c))))
theorem Up{X:Cx}:lj X (binaryOp .Add) (aaM X.K):=by
 intro pins s σ H x y v u Q I d f h;obtain⟨a,b,xs,m,rfl,rfl,ha,hb,g,q0,q1,q2⟩:=h;by_cases c:xs=[];·cases d;cases f;subst c;obtain⟨i,l,j,_⟩:=I.tuple ha;obtain⟨n,o,k,_⟩:=I.tuple hb;have e:i=[]:=l.sg.mpr rfl;subst e;exact Rg j k ⟨.ref b,H,I,rfl,q0 rfl⟩
 ·exact SI pins s σ H _ _ v u Q I d f ⟨a,b,xs,m,rfl,rfl,ha,hb,c,g,q1 c,q2 c⟩
theorem Tc.imp{X:Cx}{r a:V->Option Int->Option Int->Hp->VK->Prop}(h:Tc X r)(i:∀x lo hi H Q,a x lo hi H Q->r x lo hi H Q):Tc X a:=by intro a1 a2 a3 a4 a5 a6 a7 a8 a9 b1 b2 b3 b;intros;apply h<;>first|assumption|(apply i;assumption)
noncomputable def ad_:V->Option Int->Option Int->Hp->VK->Prop:=λx lo hi H Q=>∃a xs,x= .ref a/\H a=some (.tup xs)/\∀b H',aM H H'->H' b=some (.tup (iX xs lo hi))->Q (.ref b) H'
theorem Jl{X:Cx}:Tc X ad_:=Tc.imp BI λx lo hi H Q⟨a,xs,e,h,q⟩=>⟨a,xs,e,bS.of h,λp hp=>q p _ (aq hp _) ak,λz=>q a H (aM.refl H) (by rw[z];exact h)⟩
noncomputable def adL:R2:=λx y H Q=>∃a b xs c,x= .ref a/\y= .ref b/\H a=some (.tup xs)/\H b=some (.tup c)/\xs.length+c.length<=sizeLine/\∀p H',aM H H'->H' p=some (.tup (xs++c))->Q (.ref p) H'
theorem tN{X:Cx}:lj X (binaryOp .Add) adL:=by
 intro pins s σ H x y v u Q I d f h;obtain⟨a,b,xs,g,rfl,rfl,ha,hb,c,q⟩:=h;refine Up pins s σ H _ _ v u Q I d f ⟨a,b,xs,g,rfl,rfl,bS.of ha,bS.of hb,c,λe=>?_,λ_ e=>?_,λ_ _ p hp=>q p _ (aq hp _) ak⟩;·subst e;exact q b H (aM.refl H) hb
 ·subst e;exact q a H (aM.refl H) (by rw[kS];exact ha)
mutual theorem Rep.gX{H:Hp}{p:Addr}{xs:List V}{o:HO}(h:H p=some (.lst xs)):∀{d:D}{v:V},Rep H d v->Rep (upd H p o) d v| .aW,_,r=>r| .bl _,_,r=>r| .int _,_,r=>r| .str _,_,r=>r| .tup _,_,⟨a,vs,e,q,r⟩=>⟨a,vs,e,by rw[aZ (U8 q h (by simp))];exact q,bz.gX h r⟩theorem bz.gX{H:Hp}{p:Addr}{xs:List V}{o:HO}(h:H p=some (.lst xs)):∀{ds:List D}{vs:List V},bz H ds vs->bz (upd H p o) ds vs|[],_,r=>r|_::_,_,⟨v,r,e,q,t⟩=>⟨v,r,e,Rep.gX h q,bz.gX h t⟩end
theorem MS{J:It}{p:Addr}{h:Hp}{g:TG}{r:TE}{b:L2.St}{C:Hp->Prop}(n:Nat)(f:Nat->D)(hp:h p=none)(hn:n<=sizeLine)(u:∀i a,i<n->aM h a->J.go i a/\∀x d,J.zH i a x d->∀(R:V->Hp->Prop),(∀v e,aM a e->Rep e (f i) v->R v e)->g x b d λl o=>r l o R)(hd:∀c a,aM h a->a p=some (.lst c)->bz a ((List.range n).map f) c->J.stop n a/\C a):∃W:Nat->Nat->List V->Hp->Prop,(∃m,W 0 m [] (upd h p (.lst [])))/\∀i m c a,W i m c a->(J.stop i a/\C a)\/(J.go i a/\∀x d,J.zH i a x d->g x b d λl o=>Cb l o λok q=>if ok=true then r l q λv e=>e p=some (.lst c)/\c.length<sizeLine/\∃j,j<m/\W (i+1) j (c++[v]) (upd e p (.lst (c++[v])))else∃j,j<m/\W (i+1) j c q):=by
 refine kE (Q:=λ_ H=>C H) n (λi c a=>bz a ((List.range i).map f) c/\a p=some (.lst c)/\aM h a) ⟨rfl,ak,aq hp _⟩ ?_ ?_;·rintro i c a hi⟨rr,h2,s2⟩;obtain⟨s,t⟩:=u i a hi s2;refine⟨s,λx d y=>?_⟩;simp only[Cb,if_true];have hl:=rr.length;rw[dI,List.length_range]at hl;refine t x d y _ λv e k w=>⟨k _ _ h2,by lia,nx hi ⟨?_,ak,d_ (s2.trans k) hp⟩⟩;rw[List.range_succ,pG];exact((rr.mono k).gX (k _ _ h2)).append (bz.one (w.gX (k _ _ h2)))
 ·rintro c a⟨rr,h2,s2⟩;exact hd c a s2 h2 rr
end L3
end
section
namespace L3
open PySem PySem.Spec PyProof.Rows L2
theorem _root_.L2.da.mark{j:Nat}{A:Around}{h:Option Value}(r:da j A)(a:j<130:=by decide):da j (A.mark h):=⟨r.dp,r.un,λz=>absurd a (Nat.not_lt.mpr z)⟩
end L3
end
section
namespace L3
open PySem PySem.Spec PyProof.Rows L2 KM
end L3
end
section
namespace K23
open PySem L2 L3 KM PyProof.Rows
seal L2.PE L2.PS L2.iz L2.PT L2.PW L2.PA L2.PG L2.AR L2.PI L2.PC L2.PO L2.An L2.PK L3.AV
variable{P:Program}{w:World}{K:PySem.W.Frag}{mg:Str->Option Value}{base:Heap}{t:wY}
mutual noncomputable def plc:D->List (List Nat)| .tup (.str x::ps)=>[]::(if cZ x=true then[]else adP 0 ps)|_=>[]noncomputable def adP:Nat->List D->List (List Nat)|_,[]=>[]|i,d::ds=>(plc d).map (i::·)++adP (i+1) ds end
theorem take_snoc{l:List D}{i:Nat}{d:D}(h:l[i]?=some d):l.take (i+1)=l.take i++[d]:=by rw[List.take_add_one,h];rfl
noncomputable def WX(pl:List Nat):D:= .tup (pl.map λi=> .int (i:Nat))
theorem M8{b d:Type}(g:b->d)(z:b)(l:List b):(List.range l.length).map (λj=>g ((l[j]?).getD z))=l.map g:=by induction l with|nil=>rfl|cons a l c=>rw[cF,List.range_succ_eq_map,d7,List.map_map,d7,<-c];rfl
theorem cz{a:D->Bool}{k:Bool}:∀{d:D},bu a k d=true->∃x ps,d= .tup (.str x::ps)| .tup (.str x::ps),_=>⟨x,ps,rfl⟩| .tup [],h=>by simp[bu]at h| .tup (.aW::_),h=>by simp[bu]at h| .tup (.bl _::_),h=>by simp[bu]at h| .tup (.int _::_),h=>by simp[bu]at h| .tup (.tup _::_),h=>by simp[bu]at h| .aW,h=>by simp[bu]at h| .bl _,h=>by simp[bu]at h| .int _,h=>by simp[bu]at h| .str _,h=>by simp[bu]at h
theorem HK{a:D->Bool}:∀{cs:List Nat}{ps:List D}{i:Nat}{p:D},dZ a cs ps=true->(∀c∈cs,c=107\/c=116)->ps[i]?=some p->∃k,bu a k p=true
 |[],[],_,_,_,_,e=>by simp at e
 |[],_::_,_,_,h,_,_=>by simp[dZ]at h
 |_::_,[],_,_,h,_,_=>by simp[dZ]at h
 |c::cs,q::ps,0,p,h,hc,e=>by
  simp at e;subst e;rw[aN,cY]at h;have h1:=h.1;unfold dg at h1;rcases hc c d4 with z|z;·rw[z,if_pos rfl]at h1;exact⟨true,h1⟩
  ·rw[z,if_neg (by decide),if_pos rfl]at h1;exact⟨false,h1⟩
 |c::cs,q::ps,i+1,p,h,hc,e=>by rw[aN,cY]at h;exact HK (i:=i) h.2 (λc b=>hc c (dW _ b)) (by simpa using e)
theorem jo{k:Bool}{x:Str}{ps:List D}{i:Nat}{p:D}(h:bu aw k (.tup (.str x::ps))=true)(e:(az x ps)[i]?=some p):(∃k,bu aw k p=true)/\depth p<depth (.tup (.str x::ps)):=by
 obtain⟨s,h1,h2,h3,h4,h5,h6,a,_⟩:=bM h;unfold az at e;split at e;·simp at e
 ·rename_i b;refine⟨HK h3 (a (by simpa using b)) e,?_⟩;have :=ox e;simp only[depth,aD];lia
theorem C8{k:Bool}{x:Str}{ps:List D}(h:bu aw k (.tup (.str x::ps))=true):(az x ps).length<=4:=by
 obtain⟨s,h1,h2,h3,h4,h5,h6,a,_⟩:=bM h;unfold az;split;·exact eB _
 ·rw[<-h5];simpa using h4
structure Rt(d:D)(n:Nat):Prop where
 wf:∃k,bu aw k d=true
 dp:depth d<n
 ct:(plc d).length<=2000000
 n60:n<=60
theorem oO{a:D->Bool}{d0 b:D}(c:bu a false d0=true)(h1:bu a false b=true):bu a false (.tup [.str "app",d0,b])=true:=by refine cX (w:="app") (s:="tt") (by decide+kernel) (by decide+kernel) ?_;rw[show(Str.ofString "tt").cps.toList=[116,116]by decide+kernel,aN,aN];simp[dg,dZ,c,h1]
theorem CS{a:D->Bool}{d0 b:D}(c:bu a true d0=true)(h1:bu a false b=true):bu a false (.tup [.str "fun",d0,b])=true:=by refine cX (w:="fun") (s:="kt") (by decide+kernel) (by decide+kernel) ?_;rw[show(Str.ofString "kt").cps.toList=[107,116]by decide+kernel,aN,aN];simp[dg,dZ,c,h1]
theorem Tj{a:D->Bool}{d0 b c:D}(d:bu a true d0=true)(h1:bu a false b=true)(h2:bu a false c=true):bu a true (.tup [.str "same",d0,b,c])=true:=by refine cX (w:="same") (s:="ktt") (by decide+kernel) (by decide+kernel) ?_;rw[show(Str.ofString "ktt").cps.toList=[107,116,116]by decide+kernel,aN,aN,aN];simp[dg,dZ,d,h1,h2]
theorem xm{a:D->Bool}{d0 b c d:D}(e:bu a true d0=true)(h1:bu a false b=true)(h2:bu a false c=true)(h3:bu a false d=true):bu a false (.tup [.str "rec",d0,b,c,d])=true:=by refine cX (w:="rec") (s:="kttt") (by decide+kernel) (by decide+kernel) ?_;rw[show(Str.ofString "kttt").cps.toList=[107,116,116,116]by decide+kernel,aN,aN,aN,aN];simp[dg,dZ,e,h1,h2,h3]
theorem EG{a:D->Bool}{d0 b c:D}(d:bu a true d0=true)(h1:bu a false b=true)(h2:bu a false c=true):bu a false (.tup [.str "carry",d0,b,c])=true:=by refine cX (w:="carry") (s:="ktt") (by decide+kernel) (by decide+kernel) ?_;rw[show(Str.ofString "ktt").cps.toList=[107,116,116]by decide+kernel,aN,aN,aN];simp[dg,dZ,d,h1,h2]
theorem Hd{a:D->Bool}{d0 b:D}(c:bu a true d0=true)(h1:bu a true b=true):bu a true (.tup [.str "all",d0,b])=true:=by refine cX (w:="all") (s:="kk") (by decide+kernel) (by decide+kernel) ?_;rw[show(Str.ofString "kk").cps.toList=[107,107]by decide+kernel,aN,aN];simp[dg,dZ,c,h1]
theorem IB{a:D->Bool}{d0 b:D}(c:bu a true d0=true)(h1:bu a true b=true):bu a true (.tup [.str "some",d0,b])=true:=by refine cX (w:="some") (s:="kk") (by decide+kernel) (by decide+kernel) ?_;rw[show(Str.ofString "kk").cps.toList=[107,107]by decide+kernel,aN,aN];simp[dg,dZ,c,h1]
theorem yr{a:D->Bool}{d0:D}(b:bu a false d0=true):bu a false (.tup [.str "first",d0])=true:=by refine cX (w:="first") (s:="t") (by decide+kernel) (by decide+kernel) ?_;rw[show(Str.ofString "t").cps.toList=[116]by decide+kernel,aN];simp[dg,dZ,b]
theorem N4{a:D->Bool}{d0 b:D}(c:bu a true d0=true)(h1:bu a false b=true):bu a false (.tup [.str "never",d0,b])=true:=by refine cX (w:="never") (s:="kt") (by decide+kernel) (by decide+kernel) ?_;rw[show(Str.ofString "kt").cps.toList=[107,116]by decide+kernel,aN,aN];simp[dg,dZ,c,h1]
theorem jV{a:D->Bool}:bu a true (.tup [.str "nat"])=true:=by refine cX (w:="nat") (s:="") (by decide+kernel) (by decide+kernel) ?_;rw[show(Str.ofString "").cps.toList=[]by decide+kernel];simp[dg,dZ]
theorem fD{a:D->Bool}:bu a false (.tup [.str "zero"])=true:=by refine cX (w:="zero") (s:="") (by decide+kernel) (by decide+kernel) ?_;rw[show(Str.ofString "").cps.toList=[]by decide+kernel];simp[dg,dZ]
theorem kH{a:D->Bool}{d0:D}(b:bu a false d0=true):bu a false (.tup [.str "next",d0])=true:=by refine cX (w:="next") (s:="t") (by decide+kernel) (by decide+kernel) ?_;rw[show(Str.ofString "t").cps.toList=[116]by decide+kernel,aN];simp[dg,dZ,b]
theorem eC{H:Hp}{p:Addr}{ds:List D}{vs:List V}(hp:H p=none)(r:bz H ds vs):Rep (upd H p (.tup vs)) (.tup ds) (.ref p):=⟨p,vs,rfl,ak,r.mono (aq hp _)⟩
theorem rs{H:Hp}{d:D}{v:V}{ds:List D}{vs:List V}(r:Rep H d v)(t:bz H ds vs):bz H (d::ds) (v::vs):=⟨v,vs,rfl,r,t⟩
theorem r0{H:Hp}:bz H [] []:=rfl
theorem ir{H:Hp}{x:Str}(h:x.length<=1000:=by decide):Rep H (.str x) (.str x):=⟨rfl,h⟩
theorem ri{H:Hp}{i:Int}:Rep H (.int i) (.int i):=rfl
structure Th(d:D)(dp kn:Nat):Prop where
 wf:bu aw false d=true
 dp:depth d<=dp
 kn:aC d<=kn
def Wf(d:D):Prop:=∃k,bu aw k d=true
theorem kZ{d:D}(h:Wf d):∃x ps k,d= .tup (.str x::ps)/\bu aw k d=true/\ps.length<=10:=by obtain⟨k,h⟩:=h;obtain⟨x,ps,rfl⟩:=cz h;obtain⟨a,_,_,_,h4,h5,_⟩:=bM h;refine⟨x,ps,k,rfl,h,?_⟩;rw[<-h5];exact c8 (by simpa using h4) (by decide)
end K23
end
section
namespace L3
open PySem PySem.Spec PyProof.Rows L2 KM
theorem L9{J:It}{p:Addr}{h:Hp}{g:TG}{u:TE}{b:L2.St}{C:Hp->Prop}(n:Nat)(B:Nat->Int->Prop)(hp:h p=none)(hn:n<=sizeLine)(D:∀i a,i<n->aM h a->J.go i a/\∀x d,J.zH i a x d->∀(R:V->Hp->Prop),(∀(z:Int)f,aM a f->B i z->R (.int z) f)->g x b d λl o=>u l o R)(hd:∀(ns:List Int)a,aM h a->ns.length=n->(∀(i:Nat)(z:Int),ns[i]?=some z->B i z)->a p=some (.lst (ns.map V.int))->J.stop n a/\C a):∃W:Nat->Nat->List V->Hp->Prop,(∃m,W 0 m [] (upd h p (.lst [])))/\∀i m c a,W i m c a->(J.stop i a/\C a)\/(J.go i a/\∀x d,J.zH i a x d->g x b d λl o=>Cb l o λok s=>if ok=true then u l s λv f=>f p=some (.lst c)/\c.length<sizeLine/\∃k,k<m/\W (i+1) k (c++[v]) (upd f p (.lst (c++[v])))else∃k,k<m/\W (i+1) k c s):=by
 refine kE (Q:=λ_ H=>C H) n (λi c a=>∃ns:List Int,c=ns.map V.int/\ns.length=i/\(∀(j:Nat)(z:Int),ns[j]?=some z->B j z)/\a p=some (.lst c)/\aM h a) ⟨[],rfl,rfl,λj z e=>by simp at e,ak,aq hp _⟩ ?_ ?_
 ·rintro i c a hi⟨ns,rfl,hl,r,h2,s2⟩;obtain⟨w,A⟩:=D i a hi s2;refine⟨w,λx d y=>?_⟩;simp only[Cb,if_true];refine A x d y _ λz f t F=>⟨t _ _ h2,by rw[dI];lia,nx hi ⟨ns++[z],by simp,by simp[hl],λj y e=>?_,ak,d_ (s2.trans t) hp⟩⟩;by_cases E:j<ns.length;·rw[Fx E]at e;exact r j y e
  ·rw[List.getElem?_append_right (by lia)]at e;have :j-ns.length=0:=by
    by_cases q:j-ns.length=0;·exact q
    ·rw[List.getElem?_eq_none (by simp;lia)]at e;cases e
   rw[this]at e;simp at e;subst e;have :j=i:=by lia
   rw[this];exact F
 ·rintro c a⟨ns,rfl,hl,r,h2,s2⟩;exact hd ns a s2 hl r h2
noncomputable def UW(K:PySem.W.Frag):R2:=λx y H Q=>∃p q xs,x= .ref p/\y= .ref q/\bH K H p xs/\bH K H q xs/\(∀z∈xs,∃a,z=V.ref a)/\Q (.bl true) H
theorem L5{X:Cx}(E:X.A.units+1<cLine):lj X (compareOp .Eq) (UW X.K):=by
 intro pins s σ H x y v u Q I C D h;obtain⟨p,q,xs,rfl,rfl,o,r,n,h⟩:=h;cases C;cases D;obtain⟨c,f,A,_⟩:=I.list o;obtain⟨d,g,B,_⟩:=I.list r;have t:=f.length;have F:=g.length;refine SeqAt.eq_listAt A.isList B.isList (e:=λ_=>true) (by simp;lia) (by lia) (λj h1 h2=>?_) ⟨.bl true,H,I,?_,h⟩
 ·have b:j<xs.length:=by simpa[t]using h1
  obtain⟨k,e1,k1⟩:=f.get (i:=j) (x:=xs[j]) (by simp[b]);obtain⟨l,e2,k2⟩:=g.get (i:=j) (x:=xs[j]) (by simp[b]);obtain⟨a,m⟩:=n xs[j] (List.getElem_mem b);rw[m]at k1 k2;have w:c.toArray[j]=k:=by
   have :c[j]?=some c.toArray[j]:=by simp
   rw[e1]at this;exact(Option.some.inj this).symm
  have z:d.toArray[j]=l:=by
   have :d[j]?=some d.toArray[j]:=by simp
   rw[e2]at this;exact(Option.some.inj this).symm
  rw[w,z,show k=Value.ref a from k1,show l=Value.ref a from k2];exact SeqAt.EqAt.same _
 ·show Value.bool _=Value.bool true;congr 1;simp
end L3
end
section
namespace L3
open PySem PySem.Spec PyProof.Rows L2
theorem Ji{X:Cx}{ix:Nat}{x:Str}{pos' apos:Pos}{tg iter G:Expr}{K:List Expr}{scope:Scope}{pos:Pos}{wi:TI}{g:TG}{tt:TT}{te:TE}{N':List Str}{own:Nat}{fr:List Nat}(hN:X.N.Nodup)(hix:X.N[ix]?=some x)(hlx:X.env.scope.names.lookup x=some .local)(hc:X.calm=true)(S:nG X N' own fr scope)(hi:PI X tg iter wi)(ho:Own own g)(hg:∀E B fp,PG (dX X N' scope E B fp) tg g)(hf:∀E B fp,AV (dX X N' scope E B fp) K tt)(he:∀E B fp,PE (dX X N' scope E B fp) G te)(hsw:swapsWithSole [.Name x pos'] (.ListComp G [⟨tg,iter,K,0⟩] scope pos) apos.line X.env=pure true:=by rfl)(hs:∀x,foldedSetIterable iter X.env x=pure x:=by intro _;rfl):PS X (.Assign [.Name x pos'] (.ListComp G [⟨tg,iter,K,0⟩] scope pos) apos) (Ur (Va own fr wi g tt te) (j4 ix)):=by
 intro pins s σ H D I h;have Gp:∀x∈scope.names,x.2= .free->∃c,X.env.cells.lookup x.1=some c:=λx hx e=>I.ok.has x.1 (S.free x hx e);rw[exec_Assign_arm];refine aA (wpAny_standAt (aA (wpAny_of_eq hsw ?_)));rw[if_pos rfl,arm_evalThenUse_ListComp];refine aA (aA (gm (Q:=λ_ s'=>SP X pins D .next s') ?_ (λ_ s' q=>bB (bB q)) λ_ _ z=>z));refine wpAny_comprehension_free (use:=some _) (Q:=λ_ s'=>SP X pins D .next s') rfl hs (yx Gp) S.kind S.loc ?_;refine bX (hi pins s σ H _ I h) λv s1 h1=>bX h1 λitv s2 h2=>?_;obtain⟨it,fp,tn,J,d,e,I2,T,ZL,f2,h2⟩:=h2;subst e;refine zP (hd:=by size_fits) (wpAny_newFunctionEnv S.oP (by intro y hy;simp at hy) (λh4 U Y=>?_) S.kind);have XQ:=I2.b9.fresh (bK s2.heap.objs.size);obtain⟨W,⟨m0,w0⟩,turn⟩:=h2 _ XQ;have k:Inv X pins σ (upd d s2.heap.objs.size (.lst [])) {s2 with heap:=s2.heap.push {cls:= .type "list",dict:=none,data:= .seq ([]:List Value).toArray},toks:=s2.toks}:=I2.ack .nil (eB _);have lt2:∀b∈fp,b<s2.heap.objs.size:=λb hb=>let⟨o,e,_⟩:=T.obj _ _ ZL b hb;bT e;have up2:∀b o,s2.heap.get? b=some o->∀ob:Obj,(s2.heap.push ob).get? b=some o:=λb o e ob=>b_ _ e;have sz3:(s2.heap.push {cls:= .type "list",dict:=none,data:= .seq ([]:List Value).toArray}).objs.size=s2.heap.objs.size+1:=Heap.size_push ..;revert U Y k;generalize e3:s2.heap.push {cls:= .type "list",dict:=none,data:= .seq ([]:List Value).toArray}=h3 at sz3⊢;intro U Y k;have keep:∀b o,h3.get? b=some o->h4.get? b=some o:=λb o e=>(Y.2 b (eg (bT e))).trans (b_ _ e);have P:∀b∈fp,m8 X pins (upd d s2.heap.objs.size (.lst [])) b/\b<h3.objs.size:=λb hb=>by refine⟨⟨?_,(f2 b hb).2⟩,by rw[sz3];exact Nat.lt_succ_of_lt (lt2 b hb)⟩;rw[aZ (eg (lt2 b hb))];exact(f2 b hb).1
 have F:=HJ (t4:=s2.toks+([]:List (Str×Value)).length) S k P keep U;have Za:tn 0 h4:=T.keep _ _ _ ZL λb hb o e=>keep b o (by rw[<-e3];exact up2 b o e _);have xl:∀{H':Hp},(∀b∈fp,H' b=none)->∀b∈fp,m8 (dX X N' scope {s2 with heap:=h3,toks:=s2.toks} (upd d s2.heap.objs.size (.lst [])) fp) [] H' b:=λ{H'}hn b hb=>⟨hn b hb,eg (P b hb).2,λz=>F.ok.A0 b hb z, .inl hb,(F.ok.YF b hb).2,λp hp=>(f2 b hb).2.2.2.2.2 p (qP _ (by simpa using hp))⟩;have loop:∀sx:Shared,Inv (dX X N' scope {s2 with heap:=h3,toks:=s2.toks} (upd d s2.heap.objs.size (.lst [])) fp) [] (hI own fr σ) (upd d s2.heap.objs.size (.lst [])) sx->tn 0 sx.heap->codeAny (model X.prog X.w) X.A (.compLoop (.ListComp G [⟨tg,iter,K,0⟩] scope pos) 0 (.ref it) (.ref s2.heap.objs.size) (Gx X scope h3.objs.size)) (compPost (model X.prog X.w) X.A X.xe (some λv=>assignAll v ((assignEach [.Name x pos'] X.env).map (·.2))) (λ_ s'=>SP X pins D .next s') (.ref s2.heap.objs.size) h3.objs.size) sx:=by
  intro sx Ix tx;refine pJ (λn s'=>∃i t H',Inv (dX X N' scope {s2 with heap:=h3,toks:=s2.toks} (upd d s2.heap.objs.size (.lst [])) fp) [] (hI own fr σ) H' s'/\tn i s'.heap/\(∀b∈fp,H' b=none)/\W i n t H') ?_ m0 ⟨0,[],_,Ix,tx,λb hb=>(P b hb).1.1,w0⟩;rintro n s5⟨i,t,C,I5,SS,Yd,w5⟩;rcases turn i n t C w5 with⟨stop,qn⟩|⟨go,step⟩
  ·refine bX (T.done (dX X N' scope {s2 with heap:=h3,toks:=s2.toks} (upd d s2.heap.objs.size (.lst [])) fp) rfl rfl rfl hc i [] s5 _ C (λ_ _=>False) I5 (xl Yd) SS stop) λr L a=>?_;obtain⟨V,w⟩:=a;subst V;obtain⟨m6,hm6,_⟩:=id w.loc;have N:Inv X pins σ C L:=k.Ol (s':=L) (ch:=fp) w.os (xW (h2:=L.heap) w.base (bK _) ⟨rfl,λ_ _=>rfl⟩) w.b9 w.bare λb hb=>⟨(f2 b hb).2.2.2.1,(f2 b hb).2.1,(f2 b hb).2.2.2.2.1,(f2 b hb).2.2.2.2.2⟩;show wpAny _ _ (assign (.Name x pos') X.env (.ref s2.heap.objs.size)) _ _ _;refine wpAny_assign_Name (Al (v:= .ref s2.heap.objs.size) N hN hix (.inl hlx) rfl (λs8 O a=>?_) (.inr hlx));obtain⟨a8,sb8,ha8⟩:=a;have ltc:∀y c,X.env.cells.lookup y=some c->c<h3.objs.size:=λy c e=>by obtain⟨v,o,eo,_⟩:=k.cell y c e;exact bT eo
   have na8:h3.objs.size≠a8:=by
    rcases ha8 with z|z;·rw[z];exact Nat.ne_of_gt k.lt
    ·exact Nat.ne_of_gt (ltc _ _ z)
   obtain⟨o6,es6,ep6,ho6,r6⟩:=hm6;refine⟨m6,⟨o6,es6,ep6,(sb8.2 _ na8).trans ho6,r6⟩,λh9 hs9=>?_⟩;have l:=O.turned (h':=h9) (t':=s8.toks) (it:=h3.objs.size) (λb o hb e=>(hs9.2 b hb).trans e) w.free (Nat.ne_of_gt k.lt) (.inr k.sz) (λy c e=>eg (ltc y c e)) λp hp=>eg (bT (k.pin p hp).1);exact⟨_,C,l,qn⟩
  ·refine bX (T.item (dX X N' scope {s2 with heap:=h3,toks:=s2.toks} (upd d s2.heap.objs.size (.lst [])) fp) rfl rfl rfl hc i [] s5 _ C (λ_ _=>False) I5 (xl Yd) SS go) λr L a=>?_;obtain⟨u,V,h6⟩:=a;subst V;refine bX h6 λ_ s7 a=>?_;obtain⟨x,H7,N,r7,y7,ZR,fr7⟩:=a;have I7':=N.pinned (xl fr7) (T.obj _ _ ZR);refine bX (hg _ _ _ _ s7 _ H7 x u _ I7' r7 (ho _ _ _ _ (step x H7 y7))) λ_ s8 a=>?_;obtain⟨M,H8,O,q8,l8,k8⟩:=a;have again:∀{m:Hp}{A:Shared},Inv (dX X N' scope {s2 with heap:=h3,toks:=s2.toks} (upd d s2.heap.objs.size (.lst [])) fp) ([]++ph fp s7.heap) M m A->Inv (dX X N' scope {s2 with heap:=h3,toks:=s2.toks} (upd d s2.heap.objs.size (.lst [])) fp) [] (hI own fr σ) m A/\tn (i+1) A.heap/\∀b∈fp,m b=none:=λ{m A}l=>by
    refine⟨l.ka.weak l8.symm λj v e=>?_,T.keep _ _ _ ZR λb hb o e=>(l.pin (b,o) (j3 _ (j3 _ (fw hb e)))).1,λb hb=>?_⟩
    ·have hj:own<=j:=by refine Nat.le_of_not_lt λz=>?_;unfold hI at e;rw[Fx (by simpa using z),List.getElem?_replicate]at e;split at e<;>cases e
     rw[k8 j hj];exact e
    ·obtain⟨o,e,_⟩:=T.obj _ _ ZR b hb;exact(l.pin (b,o) (j3 _ (j3 _ (fw hb e)))).2.1
   refine bX (hf _ _ _ _ s8 M H8 _ O q8) λok A a=>?_;obtain⟨m,l,q9⟩:=a;cases ok with|false=>obtain⟨Z,R,w9⟩:=q9;obtain⟨a1,a2,a3⟩:=again l;exact⟨Z,R,i+1,t,m,a1,a2,a3,w9⟩|true=>refine bX (he _ _ _ _ A M m _ l q9) λy Ug a=>?_;obtain⟨v,YW,I10,r10,Zz,XB,Z,R,w10⟩:=a;refine bX (fj _ Ug M YW (.ref s2.heap.objs.size) [v] (.ref s2.heap.objs.size) [y] (λ_ Hn=>Hn=upd YW s2.heap.objs.size (.lst (t++[v]))) I10 rfl (.cons r10 .nil) ⟨_,t,v,rfl,rfl,Zz,XB,rfl⟩) λ_ s11 a=>?_;obtain⟨_,H11,I11,_,e11⟩:=a;subst e11;obtain⟨a1,a2,a3⟩:=again I11;exact⟨Z,R,i+1,t++[v],_,a1,a2,a3,w10⟩
 exact codeAny_compStart_list (loop _ F Za) (gm (T.self X.A 0 _ (λv s'=>v= .ref it/\s'=_) (λ_ _=>False) Za ⟨rfl,rfl⟩) (λv s'⟨e1,e2⟩=>by subst e1;subst e2;exact loop _ F Za) λ_ _ f=>f.elim)
end L3
end
section
namespace L3
open PySem PySem.Spec PyProof.Rows L2 KM
end L3
end
section
namespace K23
open PySem L2 L3 KM PyProof.Rows
seal L2.PE L2.PS L2.iz L2.PT L2.PW L2.PA L2.PG L2.AR L2.PI L2.PC L2.PO L2.An L2.PK L3.AV
variable{P:Program}{w:World}{K:PySem.W.Frag}{mg:Str->Option Value}{base:Heap}{t:wY}
structure Tp(K:PySem.W.Frag)(a p:Addr)(ns:List Int)(H:Hp)(i:Int):Prop where
 src:(a≠p/\Rd H a (.lst (ns.map V.int)))\/∀H':Hp,bH K H' a (ns.map V.int)
 len:ns.length<=63
 gh:H p=some (.lst [.int i])
 i0:0<=i
theorem Tp.scr{a p:Addr}{ns:List Int}{H:Hp}{i:Int}(T:Tp K a p ns H i)(H':Hp)(s:bx p H H'):bH K H' a (ns.map V.int):=by
 rcases T.src with⟨n,h|⟨o,h⟩⟩|h;·exact .inl (.inl (s _ _ n h))
 ·exact .inl (.inr ⟨o,s _ _ n h⟩)
 ·exact h H'
theorem Tp.next{a p:Addr}{ns:List Int}{H H':Hp}{i j:Int}(T:Tp K a p ns H i)(s:bx p H H')(h:H' p=some (.lst [.int j]))(b:0<=j):Tp K a p ns H' j:=⟨by
 rcases T.src with⟨n,h|⟨o,h⟩⟩|h;·exact .inl ⟨n, .inl (s _ _ n h)⟩
 ·exact .inl ⟨n, .inr ⟨o,s _ _ n h⟩⟩
 ·exact .inr h,T.len,h,b⟩
theorem Tp.upd{a p b:Addr}{ns:List Int}{H:Hp}{i:Int}{aH:List (Key×V)}{o:HO}(T:Tp K a p ns H i)(hb:H b=some (.dK aH)):Tp K a p ns (L2.upd H b o) i:=by
 refine⟨?_,T.len,?_,T.i0⟩
 ·rcases T.src with⟨n,h|⟨o,h⟩⟩|h;·exact .inl ⟨n, .inl (by rw[aZ (λz=>by rw[z,hb]at h;cases h)];exact h)⟩
  ·exact .inl ⟨n, .inr ⟨o,by rw[aZ (λz=>by rw[z,hb]at h;cases h)];exact h⟩⟩
  ·exact .inr h
 ·rw[aZ (λz=>by have :=T.gh;rw[z,hb]at this;cases this)];exact T.gh
theorem Tp.mono{a p:Addr}{ns:List Int}{H H':Hp}{i:Int}(T:Tp K a p ns H i)(s:aM H H'):Tp K a p ns H' i:=T.next s.x (s _ _ T.gh) T.i0
theorem Tp.rep{a p:Addr}{ns:List Int}{H H':Hp}{i:Int}{d:D}{v:V}(T:Tp K a p ns H i)(s:bx p H H')(r:Rep H d v):Rep H' d v:=r.gU s λvs z=>by rw[T.gh]at z;cases z
def eJ(K:PySem.W.Frag):Sp:=λvs H Q _=>∃(a p:Addr)(ns:List Int)(i m:Int),vs=[.ref a, .ref p, .int m]/\Tp K a p ns H i/\i<2^60/\0<m/\∀(z:Int)(H':Hp),0<=z->z<m->bx p H H'->H' p=some (.lst [.int (i+1)])->Q (.int z) H'
theorem g6:aT ["_law_script","_law_tape","_law_many","_law_seed","_law_cell"] C4 (ar jh):=⟨rfl,rfl,rfl,by decide+kernel,rfl,by decide+kernel,by decide+kernel⟩
theorem Hv(D:Df K mg "_law_draw" jh C4)(M:Mg mg t):bp P w K mg bE "_law_draw" (1) C4 (eJ K):=by
 refine D.ok g6 (λvs H Q E h=>?_) (λbase f cS A outer s H vs Q E G h=>?_);·obtain⟨a,p,ns,i,m,rfl,_⟩:=h;rfl
 obtain⟨a,p,ns,i,m,rfl,T,hi,hm,q⟩:=h;have i0:=T.i0;refine⟨_,(ai (G0 (aS cE (aP bQ (pv 1) ah (λ_ _=>rfl)) ah) (Ob (pv 1) ah set_list)) (ai (ba (aI Xd (aP bQ (pv 1) ah (λ_ _=>rfl)) (bj bC rfl M.gQ eG (ae (pv 0) ag)) (aQ _)) (aj (ay (aS gW (aP bQ (pv 0) (aS bG (aP bQ (pv 1) ah (λ_ _=>rfl)) ah) (λ_ _=>rfl)) (pv 2)))) aO) (ai (aF (i:=3) g6.nd rfl (bY rfl) (bj bC rfl M.gQ eG (ae (pv 0) ag))) (ai (fz PassesOwn.never rfl (kC (jS Tz (pv 0) dz (fF ah))) (bL (i:=4) g6.nd rfl (bY rfl)) (aj (aF (i:=3) g6.nd rfl (bY rfl) (aS gW (aS cE (aS yz (pv 3) ah) (pv 4)) ah)))) (aj (ay (aS gW (aS gW (aS yz (aS cE (pv 3) ah) (aS cE (aS yz (aP bQ (pv 1) ah (λ_ _=>rfl)) (aP bQ (pv 1) ah (λ_ _=>rfl))) ah)) ah) (pv 2)))))))),?_⟩;try dsimp only[gu,F]
 refine S7 ?_;intro _ _ _ _ _;refine⟨_,rfl,p,_,_,_,rfl,rfl,bH.of T.gh,rfl,_,_,rfl,rfl,_,rfl,p,_,_,0,rfl,rfl,T.gh,rfl,?_⟩;have e1:(upd H p (.lst ([V.int i].set 0 (V.int (i+1))))) p=some (.lst [.int (i+1)]):=ak;have k:bx p H (upd H p (.lst ([V.int i].set 0 (V.int (i+1))))):=bx.upd _;generalize upd H p (.lst ([V.int i].set 0 (V.int (i+1))))=d at e1 k⊢;have e:=T.scr d k;have hl:(ns.map V.int).length=ns.length:=dI _;have hlen:=T.len;refine⟨_,rfl,p,_,_,_,rfl,rfl,bH.of e1,rfl,_,rfl,a,_,rfl, .inl e,_,_,rfl,rfl,_,rfl,?_⟩;refine aY (λc=>?_) (λc=>?_)
 ·have c:i+1<=(((ns.map V.int).length:Nat):Int):=of_decide_eq_true c;have x:i.toNat<ns.length:=by rw[hl]at c;lia
  have e2:(i+1-1:Int)=((i.toNat:Nat):Int):=by lia
  refine⟨_,rfl,_,rfl,p,_,_,_,rfl,rfl,bH.of e1,rfl,_,_,rfl,rfl,a,_,_, .int ns[i.toNat],rfl,rfl,e,?_,_,rfl,_,_,rfl,rfl,hm,?_⟩;·rw[e2];exact aE (by rw[List.getElem?_map,gM x];rfl)
  ·exact q _ d (Int.emod_nonneg _ (by lia)) (Int.emod_lt_of_pos _ hm) k e1
 ·refine⟨_,rfl,a,_,rfl, .inl e,?_⟩;refine⟨_,rfl,_,rfl,a,_,rfl,e,λb n=>?_⟩;have s2:=aq n (.lst (iX (ns.map V.int) none (some 4)));have I:p≠b:=aX e1 n;have h2:(upd d b (.lst (iX (ns.map V.int) none (some 4)))) b=some (.lst (iX (ns.map V.int) none (some 4))):=ak;rw[show(4:Int)=((4:Nat):Int)from rfl,KU,<-List.map_take]at s2 h2⊢;generalize upd d b (.lst ((ns.take 4).map V.int))=o at s2 h2⊢;refine⟨b,rfl,⟨_,bH.of h2⟩,?_⟩;let r:Nat->L2.St->Hp->Prop:=(λj l H'=>∃(z:Int)(cv:Option V),l=[some (.ref a),some (.ref p),some (.int m),some (.int z),cv]/\0<=z/\z<2000000/\H'=o);refine gy (ns.take 4).length r ?_ ?_ ?_;·exact⟨_,none,rfl,by lia,by rw[hl];lia,rfl⟩
  ·rintro j l H' u⟨z,cv,rfl,y,B,rfl⟩;have v:(ns.take 4)[j]?=some (ns.take 4)[j]:=gM u;have hw:((ns.take 4).map V.int)[j]?=some (.int (ns.take 4)[j]):=by rw[List.getElem?_map,v];rfl
   refine⟨⟨_,_,bH.of h2,hw⟩,?_⟩;rintro J C⟨rfl,g⟩;have g:=g _ (bH.of h2);rw[hw]at g;cases g;refine⟨_,rfl,_,_,rfl,rfl, .inl ⟨by lia,by lia⟩,_,rfl,_,_,rfl,rfl,_,_,rfl,rfl,(by show(0:Int)<1000003;decide),?_⟩;refine⟨_,_,rfl,Int.emod_nonneg _ (by decide),?_,rfl⟩;have :=Int.emod_lt_of_pos (z*131+(ns.take 4)[j]) (show(0:Int)<1000003 by decide);lia
  ·rintro l H'⟨z,cv,rfl,y,B,rfl⟩;have e2:=s2 _ _ e1;refine⟨⟨_,bH.of h2,by rw[dI];exact bK _⟩,?_⟩;refine⟨_,rfl,_,_,rfl,rfl,_,rfl,p,_,_,_,rfl,rfl,bH.of e2,rfl,_,rfl,p,_,_,_,rfl,rfl,bH.of e2,rfl,_,_,rfl,rfl, .inl ⟨by lia,by lia⟩,_,_,rfl,rfl,_,_,rfl,rfl, .inl ⟨by lia,by lia⟩,_,_,rfl,rfl,(by show(0:Int)<1000003;decide),_,rfl,_,_,rfl,rfl,hm,?_⟩;exact q _ _ (Int.emod_nonneg _ (by lia)) (Int.emod_lt_of_pos _ hm) (k.trans s2.x) e2
end K23
end
section
namespace L3
open PySem PySem.Spec PyProof.Rows L2 KM
section
variable{X:Cx}
noncomputable def Z0:V->List V->Hp->VK->Prop:=λx vs H Q=>∃(z y:Str)(i:Nat)(rest:List Nat),x= .str z/\vs=[.str y]/\Builtin.Str.occurrences z y 0 z.length 1=i::rest/\Q (.int (i:Nat)) H
theorem OW:MtR X "str.index" Z0:=by intro pins s σ H x vs v us Q I d c h;obtain⟨z,y,i,rest,rfl,rfl,a,q⟩:=h;obtain⟨u,rfl,b⟩:=c.one;obtain⟨t,rfl⟩:=(show∃t,v=Value.str z t from d);obtain⟨t2,rfl⟩:=(show∃t,u=Value.str y t from b);exact SC.index a ⟨.int (i:Nat),H,I.tok _,⟨_,rfl⟩,q⟩
theorem D9:∀{a:List Str}{us:List Value},Vals (a.map V.str) us->StrsAre us a|[],_, .nil=> .nil|y::a,_, .cons r t=>by obtain⟨tk,rfl⟩:=(show∃t,_=Value.str y t from r);exact .cons y tk (D9 t)
noncomputable def rJoin(K:PySem.W.Frag):V->List V->Hp->VK->Prop:=λx vs H Q=>∃(z:Str)(l:Addr)(a:List Str),x= .str z/\vs=[.ref l]/\bH K H l (a.map V.str)/\(a.map (·.length)).sum+a.length*z.length<=16777216/\Q (.str (Txt.join z a)) H
theorem UJ:MtR X "str.join" (rJoin X.K):=by intro pins s σ H x vs v us Q I d c h;obtain⟨z,l,f,rfl,rfl,hl,a,q⟩:=h;obtain⟨u,rfl,b⟩:=c.one;obtain⟨t,rfl⟩:=(show∃t,v=Value.str z t from d);cases b;obtain⟨e,r,p,_⟩:=I.list hl;exact join_list p.isList (by simpa using D9 r) a λt' k=>⟨.str _,H,I.tok _,⟨_,rfl⟩,q⟩
theorem Ga:iP X (.type "dict") (λxs H Q=>∃(a:Addr)(aH:List (Key×V)),xs=[.ref a]/\H a=some (.dK aH)/\∀p,H p=none->Q (.ref p) (upd H p (.dK aH))):=by
 intro pins s σ H xs us Q I r h;obtain⟨a,aH,rfl,ha,q⟩:=h;obtain⟨u,rfl,f⟩:=r.one;cases f;obtain⟨z,hd,vs,rel,c⟩:=Fb I.b9 ha;have hf:H s.heap.objs.size=none:=I.b9.fresh (bK _);refine PySem.kt_call_dict (knd:=cU X.prog X.w) hd c (by rw[<-rel.length];exact z) λh' hn d=>⟨.ref s.heap.objs.size,_,?_,rfl,q _ hf⟩;refine I.laid (a:=s.heap.objs.size) (o:= .dK aH) (t':=s.toks) (λb o e=>?_) (bK _) (FP z ?_ rel hn);·rw[d.2 b (eg (bT e))];exact b_ _ e
 ·exact beq_eq_false_iff_ne.mpr (Nat.ne_of_gt I.big)
theorem HW(A:Around)(s:Shared){a:List (Key×Value)}:∀(vs:List (Key×Value)),(∀(k:Key)(v:Value),(k,v)∈vs->valueAt a k=some v)->PySem.W.KeqHits A s a vs true|[],_=> .nil|(k,v)::r,h=>PySem.W.KeqHits.hit (e:=true) (b:=true) (h _ _ d4) (SeqAt.EqAt.same _) (HW A s r λk v c=>h k v (dW _ c))
theorem N3{vs:List (Key×Value)}(nd:(vs.map (·.1)).Nodup):∀(k:Key)(v:Value),(k,v)∈vs->valueAt vs k=some v:=λk v hm=>by
 induction vs with
  |nil=>cases hm
  |cons p r b=>
   obtain⟨k0,v0⟩:=p;rw[d7,List.nodup_cons]at nd;rcases List.mem_cons.mp hm with e|hm;·cases e;simp[valueAt]
   ·have a:k0≠k:=λz=>nd.1 (by rw[z];exact List.mem_map.mpr ⟨(k,v),hm,rfl⟩);have :=b nd.2 hm;simp[valueAt,a]at this⊢;exact this
noncomputable def afs:R2:=λx y H Q=>∃(a b:Addr)(aH:List (Key×V)),x= .ref a/\y= .ref b/\H a=some (.dK aH)/\H b=some (.dK aH)/\(∀k v,(k,v)∈aH->∃c,v=V.ref c)/\Q (.bl false) H
theorem Wm:∀{aH:List (Key×V)}{vs us:List (Key×Value)},KV aH vs->KV aH us->(∀k v,(k,v)∈aH->∃c,v=V.ref c)->vs=us|[],_,_, .nil, .nil,_=>rfl|(k,v)::r,(k1,v1)::_,(k2,e)::_, .cons a t, .cons b u,h=>by obtain⟨c,rfl⟩:=h k v d4;have a1:k=k1:=a.1;have b1:k=k2:=b.1;have a2:v1=Value.ref c:=a.2;have b2:e=Value.ref c:=b.2;rw[<-a1,<-b1,a2,b2,Wm t u λk v d=>h k v (dW _ d)]
theorem aac(l:X.A.units+1<cLine):lj X (compareOp .NotEq) afs:=by intro pins s σ H x y v u Q I j k h;obtain⟨a,b,aH,rfl,rfl,ha,hb,g,q⟩:=h;cases j;cases k;obtain⟨z,hd,vs,rel,c⟩:=Fb I.b9 ha;obtain⟨m,f,us,i,d⟩:=Fb I.b9 hb;have e:=Wm rel i g;subst e;have nd:(vs.map (·.1)).Nodup:=let⟨_,_,_,_,_,_,_,_,hn⟩:=c;hn;refine PySem.W.keq_ne (knd:=cU X.prog X.w) hd f c d (by lia) (r:=true) (λ_=>HW _ _ vs (N3 nd)) ⟨.bl false,H,I,?_,q⟩;show Value.bool _=Value.bool false;simp
theorem Na(hh:X.A.handled=none):iP X (.builtin "min") (λxs H Q=>∃i j:Int,xs=[.int i, .int j]/\Q (.int (if j<i then j else i)) H):=by
 intro pins s σ H xs us Q I r h;obtain⟨i,j,rfl,q⟩:=h;obtain⟨d,e,rfl,b,c⟩:=Vals.two r;obtain⟨t1,rfl⟩:=(show∃t,d=Value.int i t from b);obtain⟨t2,rfl⟩:=(show∃t,e=Value.int j t from c);refine min_two_ints hh λh' tk a=>⟨.int (if j<i then j else i),H,I.kept (h':=h') (t':=tk) a,?_,q⟩;split;·exact⟨_,rfl⟩
 ·exact⟨_,rfl⟩
theorem oZ(hh:X.A.handled=none):iP X (.builtin "max") (λxs H Q=>∃i j:Int,xs=[.int i, .int j]/\Q (.int (if j>i then j else i)) H):=by
 intro pins s σ H xs us Q I r h;obtain⟨i,j,rfl,q⟩:=h;obtain⟨d,e,rfl,b,c⟩:=Vals.two r;obtain⟨t1,rfl⟩:=(show∃t,d=Value.int i t from b);obtain⟨t2,rfl⟩:=(show∃t,e=Value.int j t from c);refine max_two_ints hh λh' tk a=>⟨.int (if j>i then j else i),H,I.kept (h':=h') (t':=tk) a,?_,q⟩;split;·exact⟨_,rfl⟩
 ·exact⟨_,rfl⟩
end
section
variable{X:Cx}{pins:List (Addr×Obj)}{σ:L2.St}{H:Hp}{s:Shared}{a:Addr}{D:List (Str×V)}{k:Str}{tk:Tok}{A:Around}{E:Value->Shared->Prop}
theorem QT{Q:Value->Shared->Prop}{x:V}{b:Value}(T:lZ X.K a D)(I:Inv X pins σ H s)(d:RelV x b)(h:∀c,RelV ((KTD.datumAt k D).getD x) c->Q c {s with toks:=s.toks+1}):wpAny (model X.prog X.w) A (call (.builtin "dict.get") [.ref a, .str k tk,b]) Q E s:=by
 have ty:=T.typeIs I;refine qO PySem.F.slot_dict_get ty PySem.F.entry_dict_get ?_ (PySem.F.args_dict_get_3 _ _ _);show wpAny (model X.prog X.w) _ (dictGet a (.str k tk)>>=_) _ _ s;refine aA (C2 T I (λv u e r=>?_) λhn=>?_);·have h:=h u (by rw[e];exact r);exact bB ⟨u,rfl,h⟩
 ·have h:=h b (by rw[hn];exact d);refine aA ?_;unfold Builtin.Dict.missed;rw[T.sys];simp only[Bool.false_eq_true,if_false];exact bB (bB ⟨_,rfl,h⟩)
end
noncomputable def aao(K:PySem.W.Frag)(td ty e:TE):TE:=λσ H Q=>td σ H λx b=>∃a D,x= .ref a/\lZ K a D/\ty σ b λy c=>e σ c λz d=>∃k,y= .str k/\Q ((KTD.datumAt k D).getD z) d
theorem Qy{X:Cx}{o e f:Expr}{apos eQ:Pos}{td ty g:TE}(w:PE X o td)(v:PE X e ty)(hf:PE X f g)(m:M2 X o "get" apos e f eQ):PE X (.Call (.Attribute o "get" apos) [e,f] [] eQ) (aao X.K td ty g):=by
 intro pins s σ H Q I h;refine wpAny_Call_method m.base m.few m.line PySem.F.plainAttrs_dict PySem.F.slot_dict_get PySem.F.type_dict_get (bX (w pins s σ H _ I h) λu s1 C=>?_);obtain⟨x,i,c,A,a,D,ex,T,q1⟩:=C;subst ex;obtain rfl:u=Value.ref a:=A;have t1:=T.typeIs c;refine⟨t1,λb q=>?_,?_⟩;·cases q;obtain⟨o,_,_,e,x,_⟩:=T.ex;exact⟨o,c.kI a o e,x.2.1⟩
 rw[m.trees];refine Calls.callWith_builtin rfl (Calls.evalArgs_plain (Calls.spliced_cons (bX (v pins s1 σ i _ c q1) λF s2⟨y,j,n,B,q2⟩=>Calls.spliced_cons (bX (hf pins s2 σ j _ n q2) λE G⟨z,l,d,rz,k,p,q3⟩=>Calls.spliced_nil ?_))));subst p;obtain⟨t,rfl⟩:=B;exact QT T d rz λJ r=>⟨_,l,d.tok _,r,q3⟩
theorem ZS:bootBuiltins "min"=some (.builtin "min"):=by decide+kernel
theorem Uc:bootBuiltins "dict"=some (.type "dict"):=by decide+kernel
theorem LQ{J:It}{p:Addr}{h:Hp}{g:TG}{u:TE}{b:L2.St}{C:Hp->Prop}(n:Nat)(B:Nat->V->Prop)(hp:h p=none)(hn:n<=sizeLine)(D:∀i a,i<n->aM h a->J.go i a/\∀x d,J.zH i a x d->∀(R:V->Hp->Prop),(∀(z:V)f,aM a f->B i z->R z f)->g x b d λl o=>u l o R)(hd:∀(ns:List V)a,aM h a->ns.length=n->(∀(i:Nat)(z:V),ns[i]?=some z->B i z)->a p=some (.lst ns)->J.stop n a/\C a):∃W:Nat->Nat->List V->Hp->Prop,(∃m,W 0 m [] (upd h p (.lst [])))/\∀i m c a,W i m c a->(J.stop i a/\C a)\/(J.go i a/\∀x d,J.zH i a x d->g x b d λl o=>Cb l o λok s=>if ok=true then u l s λv f=>f p=some (.lst c)/\c.length<sizeLine/\∃k,k<m/\W (i+1) k (c++[v]) (upd f p (.lst (c++[v])))else∃k,k<m/\W (i+1) k c s):=by
 refine kE (Q:=λ_ H=>C H) n (λi c a=>c.length=i/\(∀(j:Nat)(z:V),c[j]?=some z->B j z)/\a p=some (.lst c)/\aM h a) ⟨rfl,λj z e=>by simp at e,ak,aq hp _⟩ ?_ ?_
 ·rintro i c a hi⟨hl,r,h2,s2⟩;obtain⟨w,A⟩:=D i a hi s2;refine⟨w,λx d y=>?_⟩;simp only[Cb,if_true];refine A x d y _ λz f t F=>⟨t _ _ h2,by lia,nx hi ⟨by simp[hl],λj y e=>?_,ak,d_ (s2.trans t) hp⟩⟩;by_cases E:j<c.length;·rw[Fx E]at e;exact r j y e
  ·rw[List.getElem?_append_right (by lia)]at e;have :j-c.length=0:=by
    by_cases q:j-c.length=0;·exact q
    ·rw[List.getElem?_eq_none (by simp;lia)]at e;cases e
   rw[this]at e;simp at e;subst e;have :j=i:=by lia
   rw[this];exact F
 ·rintro c a⟨hl,r,h2,s2⟩;exact hd c a s2 hl r h2
theorem AU:∀(bs:List Addr),Vals (bs.map V.ref) (bs.map Value.ref)|[]=> .nil|b::bs=> .cons rfl (AU bs)
theorem yc{K:PySem.W.Frag}{a:Addr}{d:Option Addr}{b:Array Value}{n:Nat}{sl:Array (Option Value)}(bs:List Addr)(h:K.lookup a=some ⟨.type "tuple",d, .seq b n,sl⟩)(e:b.toList=bs.map Value.ref)(hl:bs.length<=100:=by decide):zm K a (bs.map V.ref):=by refine⟨_,b,n,h,rfl,rfl,?_,by rw[e];exact AU bs⟩;have h2:=congrArg List.length e;rw[Array.length_toList,dI]at h2;rw[h2];exact c8 hl (by decide)
theorem TR{K:PySem.W.Frag}{a:Addr}{es:Array DictEntry}{ep:Nat}(b:List Str)(as:List Addr)(e:(a==sysModules)=false)(d:K.lookup a=some ⟨.type "dict",none, .dict es ep,#[]⟩)(c:gj es.toList b=true)(rf:refsOf es.toList=as):lZ K a ((b.zip as).map λp=>(p.1,V.ref p.2)):=by refine⟨e,_,es,ep,d,⟨rfl,rfl,rfl⟩,rfl,?_⟩;have h:=Cd c;rw[rf]at h;exact h
end L3
end
section
namespace K23
open PySem L2 L3 KM PyProof.Rows
seal L2.PE L2.PS L2.iz L2.PT L2.PW L2.PA L2.PG L2.AR L2.PI L2.PC L2.PO L2.An L2.PK L3.AV
variable{P:Program}{w:World}{K:PySem.W.Frag}{mg:Str->Option Value}{base:Heap}{t:wY}
theorem big{m:Nat}(h:m<=1000):m<=sizeLine:=c8 h (by decide)
theorem Hk(a b:Str):(a++b).length=a.length+b.length:=Array.size_append
def HP:Sp:=λvs H Q _=>∃x:Str,vs=[.str x]/\x.length<=100/\∀(y:Str)(H':Hp),y.length<=101->aM H H'->Q (.str y) H'
theorem CY:aT ["_law_word_here"] ["_law_word_here"] (ar ik):=⟨rfl,rfl,rfl,by decide+kernel,rfl,by decide+kernel,by decide+kernel⟩
theorem ET(D:Df K mg "_law_named" ik ["_law_word_here"])(M:Mg mg t):bp P w K mg bE "_law_named" (1) ["_law_word_here"] HP:=by
 refine D.ok CY (λvs H Q E h=>?_) (λbase f cS A outer s H vs Q E j h=>?_);·obtain⟨x,rfl,_⟩:=h;rfl
 obtain⟨x,rfl,k,q⟩:=h;refine⟨_,(ai (ba (aI iM (pv 0) (av (ae ao (ae ao (ae ao (ae ao (ae ao (ae ao (ae ao (ae ao (ae ao (ae ao (ae ao (ae ao (ae ao ag)))))))))))))) rfl) (aj (ay (aS cG (xQ (pv 0) dz (fF (NS HE ah)) dz) ao))) aO) (ai (ba (aI iM (pv 0) (av (ae ao (ae ao (ae ao (ae ao (ae ao ag)))))) rfl) (aj (ay (aS cG (xQ (pv 0) dz (fF (NS HE ah)) dz) ao))) aO) (aj (ay (pv 0))))),?_⟩;try dsimp only[gu,i]
 refine Cy ?_;intro _ _ _;refine⟨_,rfl,(cN rfl),λe a=>⟨e,(["nat","none","all","some","same","var","fun","app","zero","next","rec","like","carry"]:List Str).map V.str,rfl, .inr (bS.of ak),rfl,rfl,_,rfl,?_⟩⟩;have s1:aM H _:=aq a (.tup ((["nat","none","all","some","same","var","fun","app","zero","next","rec","like","carry"]:List Str).map V.str));refine aY (λc=>?_) (λc=>?_);·refine⟨_,rfl,_,rfl,_,rfl,x,rfl,big (by lia),(by simp),λy d=>⟨_,_,rfl,rfl,big (by show y.length+1<=1000;lia),q _ _ (by rw[Hk];show y.length+1<=101;lia) s1⟩⟩
 ·refine⟨_,rfl,(cN rfl),λg b=>⟨g,(["never","pair","first","second","name"]:List Str).map V.str,rfl, .inr (bS.of ak),rfl,rfl,_,rfl,?_⟩⟩;have s2:=s1.trans (aq b (.tup ((["never","pair","first","second","name"]:List Str).map V.str)));refine aY (λc=>?_) (λc=>?_);·refine⟨_,rfl,_,rfl,_,rfl,x,rfl,big (by lia),(by simp),λy d=>⟨_,_,rfl,rfl,big (by show y.length+1<=1000;lia),q _ _ (by rw[Hk];show y.length+1<=101;lia) s2⟩⟩
  ·exact⟨_,rfl,q x _ (by lia) s2⟩
noncomputable def cK:Str:="abcdefghijklmnopqrstuvwxyz"
noncomputable def yF(j:Int):Nat:=(cK.cps.toList[(j%26).toNat]?).getD 97
theorem S0:cK.cps.toList.length=26:=by decide+kernel
theorem Hy(j:Int):lP cK.cps.toList (j%26)=some (yF j)/\yF j∈cK.cps.toList:=by
 have b:=Int.emod_nonneg j (show(26:Int)≠0 by decide);have h1:=Int.emod_lt_of_pos j (show(0:Int)<26 by decide);have hl:(j%26).toNat<cK.cps.toList.length:=by rw[S0];lia
 have e:cK.cps.toList[(j%26).toNat]?=some (yF j):=by unfold yF;rw[gM hl];rfl
 refine⟨?_,zK e⟩;have a:j%26=(((j%26).toNat:Nat):Int):=by lia
 rw[a];exact aE e
theorem S4:(cK.cps.toList.all λc=>match Builtin.Str.occurrences cK ⟨#[c]⟩ 0 cK.length 1 with|_::_=>true|[]=>false)=true:=by decide+kernel
theorem UG{c:Nat}(h:c∈cK.cps.toList):∃i rest,Builtin.Str.occurrences cK ⟨#[c]⟩ 0 cK.length 1=i::rest:=by have :=List.all_eq_true.mp S4 c h;cases e:Builtin.Str.occurrences cK ⟨#[c]⟩ 0 cK.length 1 with|nil=>rw[e]at this;cases this|cons i rest=>exact⟨i,rest,rfl⟩
theorem Ap:∀(cs:List Nat)(A:Array Nat),(cs.map λc=>(⟨#[c]⟩:Str)).foldl (λa p=>a++(Str.ofString "").cps++p.cps) A=A++cs.toArray
 |[],A=>by simp
 |c::cs,A=>by
  rw[d7,List.foldl_cons,Ap cs];have e:(Str.ofString "").cps=#[]:=by decide+kernel
  rw[e];simp
theorem Bt(cs:List Nat):(Txt.join (Str.ofString "") (cs.map λc=>(⟨#[c]⟩:Str))).cps.toList=cs:=by cases cs with|nil=>decide+kernel|cons c cs=>show((((c::cs).map λc=>(⟨#[c]⟩:Str)).drop 1).foldl (λa p=>a++(Str.ofString "").cps++p.cps) (((c::cs).map λc=>(⟨#[c]⟩:Str)).headD Str.empty).cps).toList=c::cs;rw[d7,List.drop_succ_cons,List.drop_zero,Ap];simp
theorem RW(cs:List Nat):((cs.map λc=>(⟨#[c]⟩:Str)).map (·.length)).sum=cs.length:=by induction cs with|nil=>rfl|cons c cs a=>rw[d7,d7,List.sum_cons,a,cF];show 1+cs.length=_;lia
def N2(K:PySem.W.Frag):Sp:=λvs H Q _=>∃(a p:Addr)(ns:List Int)(i:Int),vs=[.ref a, .ref p]/\Tp K a p ns H i/\i<2^59/\∀(c:Addr)(x y z:Str)(H':Hp),x.length<=101->y.length<=101->z.length<=101->H' c=some (.lst [.str x, .str y, .str z])->bx p H H'->H' p=some (.lst [.int (i+4)])->Q (.ref c) H'
theorem dv:aT ["_law_script","_law_tape","_law_letters","_law_cell","_law_size","_law_word_here","_law_at","_law_other","_law_words"] ["_law_script","_law_tape"] (ar fk):=⟨rfl,rfl,rfl,by decide+kernel,rfl,by decide+kernel,by decide+kernel⟩
theorem GH(D:Df K mg "_law_pool" fk ["_law_script","_law_tape"])(M:Mg mg t)(o:bp P w K mg bE "_law_draw" (1) C4 (eJ K))(Dg:bp P w K mg bE "_law_named" (1) ["_law_word_here"] HP):bp P w K mg bE "_law_pool" (2) ["_law_script","_law_tape"] (N2 K):=by
 refine D.ok dv (λvs H Q E h=>?_) (λbase f cS A outer s H vs Q E g h=>?_);·obtain⟨a,p,ns,i,rfl,_⟩:=h;rfl
 obtain⟨a,p,ns,i,rfl,T,hi,q⟩:=h;refine⟨_,(ai (aF (i:=2) dv.nd rfl (bY rfl) ao) (ai (aF (i:=3) dv.nd rfl (bY rfl) (aJ o g.m rfl aK (ae (pv 0) (ae (pv 1) (ae (aS aak ah ah) ag))))) (ai (aF (i:=4) dv.nd rfl (bY rfl) (aS cE ah (aJ o g.m rfl aK (ae (pv 0) (ae (pv 1) (ae ah ag)))))) (ai (aF (i:=5) dv.nd rfl (bY rfl) (lx PySem.F.plainAttrs_str PySem.F.slot_str_join PySem.F.type_str_join UJ ao (ae (oh (N':=["_law_k","_law_letters","_law_cell"]) (own:=1) (fr:=[2,3]) rfl (lF (N:=["_law_script","_law_tape","_law_letters","_law_cell","_law_size","_law_word_here","_law_at","_law_other","_law_words"]) (sc:=ar fk) rfl rfl rfl (by decide+kernel)) (dR rfl M.f9 (ae (pv 4) ag)) (iC (by decide)) (λ_ _ _=>(bL (i:=0) (show List.Nodup (["_law_k","_law_letters","_law_cell"]:List Str)by decide+kernel) rfl (Or.inl rfl))) (λ_ _ _=>me) (λ_ _ _=>(aP jk (pv 1) (aS gW (aS cE (aS sA (pv 2) (aS cE (pv 0) ah)) (aS yz ah (pv 0))) ah) (λ_ _=>rfl)))) ag))) (ai (aF (i:=6) dv.nd rfl (bY rfl) (aJ o g.m rfl aK (ae (pv 0) (ae (pv 1) (ae (pv 4) ag))))) (ai (aF (i:=7) dv.nd rfl (bY rfl) (aP jk (pv 2) (aS gW (aS cE (aS cE (lx PySem.F.plainAttrs_str PySem.F.slot_str_index PySem.F.type_str_index OW (pv 2) (ae (aP jk (pv 5) (pv 6) (λ_ _=>rfl)) ag)) ah) (aJ o g.m rfl aK (ae (pv 0) (ae (pv 1) (ae ah ag))))) ah) (λ_ _=>rfl))) (ai (aF (i:=8) dv.nd rfl (bY rfl) (cq (ae (pv 5) (ae (aS cG (aS cG (xQ (pv 5) dz (fF (pv 6)) dz) (pv 7)) (xQ (pv 5) (fF (aS cE (pv 6) ah)) dz dz)) (ae (xQ (aS cG (pv 7) (pv 5)) dz (fF ah) dz) ag))))) (aj (ay (oh (N':=["_law_one"]) (own:=1) (fr:=[]) rfl (lF (N:=["_law_script","_law_tape","_law_letters","_law_cell","_law_size","_law_word_here","_law_at","_law_other","_law_words"]) (sc:=ar fk) rfl rfl rfl (by decide+kernel)) (kC (pv 8)) (iC (by decide)) (λ_ _ _=>(bL (i:=0) (show List.Nodup (["_law_one"]:List Str)by decide+kernel) rfl (Or.inl rfl))) (λ_ _ _=>me) (λ_ _ _=>(aJ Dg g.m rfl aK (ae (pv 0) ag))))))))))))),?_⟩;try dsimp only[gu,cH]
 refine afi ?_;intro _ _ _ _ _ _ _ _;refine⟨_,rfl,_,rfl,_,_,rfl,rfl,⟨by decide,by decide,by decide⟩,a,p,ns,i,_,rfl,T,(by lia),(by decide),λcell H1 c0 c1 x1 h1=>?_⟩;have T1:=T.next x1 h1 (by have :=T.i0;lia);refine⟨_,rfl,_,rfl,a,p,ns,i+1,12,rfl,T1,(by lia),(by decide),λsz H2 z0 z1 x2 h2=>⟨_,_,rfl,rfl,?_⟩⟩;have T2:=T1.next x2 h2 (by have :=T.i0;lia);obtain⟨m,em⟩:∃m:Nat,1+sz=(m:Int):=⟨(1+sz).toNat,by lia⟩;show j4 4 (V.int (1+sz)) _ _ _;rw[em];refine⟨rfl,_,rfl,_,rfl,(by show-(2^62)<=((m:Nat):Int);lia),(by show((m:Nat):Int)<2^62;lia),λp3 VS=>?_⟩;refine AA m (λk=>V.str ⟨#[yF (cell/((k:Nat)+1)+5*(k:Nat))]⟩) VS (big (by lia)) (λk H3 F G=>⟨F,?_⟩) λH3 G h3=>⟨bK _,?_⟩
 ·rintro x' H4⟨rfl,rfl⟩R B;have e0:(0:Int)+(k:Int)=((k:Nat):Int):=by lia
  rw[e0];refine⟨_,rfl,_,rfl,_,rfl,_,_,rfl,rfl,_,_,rfl,rfl,⟨by lia,by lia⟩,_,rfl,_,_,rfl,rfl, .inl ⟨by decide,by decide⟩,_,_,rfl,rfl,_,_,rfl,rfl,(by show(0:Int)<26;decide),cK,_,_,rfl,rfl,(by decide),(Hy _).1,B _ (aM.refl _)⟩
 have e3:(List.range m).map (λk:Nat=>V.str ⟨#[yF (cell/((k:Nat)+1)+5*(k:Nat))]⟩)=((((List.range m).map λk:Nat=>yF (cell/((k:Nat)+1)+5*(k:Nat))).map λc=>(⟨#[c]⟩:Str))).map V.str:=by rw[List.map_map,List.map_map];rfl
 rw[e3]at h3;have U:∀c∈((List.range m).map λk:Nat=>yF (cell/((k:Nat)+1)+5*(k:Nat))),c∈cK.cps.toList:=λc hc=>by obtain⟨k,_,rfl⟩:=List.mem_map.mp hc;exact(Hy _).2
 have S:((List.range m).map λk:Nat=>yF (cell/((k:Nat)+1)+5*(k:Nat))).length=m:=by rw[dI,List.length_range]
 generalize((List.range m).map λk:Nat=>yF (cell/((k:Nat)+1)+5*(k:Nat)))=cs at h3 U S e3;refine⟨_,p3,_,rfl,rfl,bH.of h3,?_,?_⟩;·rw[RW,dI];show cs.length+cs.length*0<=_;lia
 have C:=Bt cs;have hWl:(Txt.join (Str.ofString "") (cs.map λc=>(⟨#[c]⟩:Str))).length=m:=by have :=congrArg List.length C;rw[Array.length_toList]at this;rw[<-S,<-this];rfl
 generalize Txt.join (Str.ofString "") (cs.map λc=>(⟨#[c]⟩:Str))=W at C hWl⊢;have L:=T2.mono G;have i0:=T.i0;refine⟨_,rfl,_,rfl,_,rfl,a,p,ns,i+1+1,m,rfl,L,(by lia),(by lia),λat_ H4 a0 a1 x4 h4=>?_⟩;have T4:=L.next x4 h4 (by lia);obtain⟨n,rfl⟩:∃n:Nat,at_=(n:Int):=⟨at_.toNat,by lia⟩;have O:n<cs.length:=by lia
 have hc:lP W.cps.toList (n:Int)=some cs[n]:=by rw[C];exact aE (gM O)
 obtain⟨ix,rest,hoc⟩:=UG (U _ (List.getElem_mem O));refine⟨_,rfl,_,rfl,rfl,_,rfl,_,rfl,W,_,_,rfl,rfl,big (by lia),hc,cK,_,ix,rest,rfl,rfl,hoc,_,_,rfl,rfl,_,rfl,_,rfl,a,p,ns,i+1+1+1,25,rfl,T4,(by lia),(by decide),λr I r0 r1 x5 h5=>?_⟩;refine⟨_,_,rfl,rfl,_,_,rfl,rfl,(by show(0:Int)<26;decide),cK,_,_,rfl,rfl,(by decide),(Hy _).1,?_⟩;have one:∀c:Nat,(⟨#[c]⟩:Str).length=1:=λc=>rfl;generalize yF _=oc;refine⟨_,rfl,_,rfl,_,rfl,_,rfl,W,rfl,big (by lia),(by simp),λb hy1=>?_⟩;refine⟨_,rfl,_,_,rfl,rfl,big (by rw[one];lia),_,rfl,_,rfl,_,_,rfl,rfl,_,rfl,W,rfl,big (by lia),(by simp),λd hy2=>?_⟩;refine⟨_,_,rfl,rfl,big (by rw[Hk,one];lia),_,rfl,_,rfl,_,_,rfl,rfl,big (by rw[one];lia),_,rfl,_,rfl,big (by rw[Hk,one];lia),(by simp),λe hy3=>?_⟩;rw[Hk,one]at hy3;refine⟨(cN rfl),λu hp6=>?_⟩;have Z:=aq hp6 (.lst [V.str W,V.str (b++⟨#[oc]⟩++d),V.str e]);have h6:(upd I u (.lst [V.str W,V.str (b++⟨#[oc]⟩++d),V.str e])) u=some (.lst [V.str W,V.str (b++⟨#[oc]⟩++d),V.str e]):=ak;generalize upd I u (.lst [V.str W,V.str (b++⟨#[oc]⟩++d),V.str e])=H6 at Z h6⊢;have hl3:∀z∈[W,b++⟨#[oc]⟩++d,e],z.length<=100:=λz j=>by
  simp only[gF,jf,or_false]at j;rcases j with rfl|rfl|rfl;·lia
  ·rw[Hk,Hk,one];lia
  ·lia
 refine⟨_,rfl,u,rfl,⟨_,bH.of h6⟩,λp7 hp7=>?_⟩;refine LQ 3 (λ_ v=>∃y:Str,v= .str y/\y.length<=101) hp7 (by decide) (λk J F l=>?_) λvs J l hl x h7=>⟨⟨_,bH.of (l _ _ h6),bK _⟩,?_⟩
 ·obtain⟨z,j,hzm⟩:∃z:Str,[V.str W,V.str (b++⟨#[oc]⟩++d),V.str e][k]?=some (.str z)/\z∈[W,b++⟨#[oc]⟩++d,e]:=by match k,F with|0,_=>exact⟨_,rfl,by simp⟩|1,_=>exact⟨_,rfl,by simp⟩|2,_=>exact⟨_,rfl,by simp⟩
  refine⟨⟨_,_,bH.of (l _ _ h6),j⟩,?_⟩;rintro x' H8⟨rfl,hy⟩R B;have X:=hy _ (bH.of (l _ _ h6));rw[j]at X;cases X;exact⟨_,rfl,z,rfl,hl3 z hzm,λy H9 hy9 s9=>B _ H9 s9 ⟨y,rfl,hy9⟩⟩
 ·match vs,hl with|[v1,v2,v3],_=>obtain⟨q1,rfl,l1⟩:=x 0 v1 rfl;obtain⟨q2,rfl,l2⟩:=x 1 v2 rfl;obtain⟨q3,rfl,l3⟩:=x 2 v3 rfl;have Y:=Z.trans l;refine q p7 q1 q2 q3 J l1 l2 l3 h7 (((x1.trans x2).trans (G.x.trans x4)).trans (x5.trans Y.x)) ?_;rw[show i+4=i+1+1+1+1 by lia];exact Y _ _ h5
def PlD(H:Hp)(c:Addr):Prop:=∃x y z:Str,x.length<=101/\y.length<=101/\z.length<=101/\H c=some (.lst [.str x, .str y, .str z])
structure Sg(K:PySem.W.Frag)(a p c:Addr)(ns:List Int)(H:Hp)(i:Int):Prop where
 T:Tp K a p ns H i
 pl:PlD H c
theorem Sg.next{a p c:Addr}{ns:List Int}{H H':Hp}{i j:Int}(g:Sg K a p c ns H i)(s:bx p H H')(h:H' p=some (.lst [.int j]))(b:0<=j):Sg K a p c ns H' j:=by refine⟨g.T.next s h b,?_⟩;obtain⟨x,y,z,d,f,k,hc⟩:=g.pl;refine⟨x,y,z,d,f,k,s _ _ (λe=>?_) hc⟩;subst e;rw[g.T.gh]at hc;cases hc
theorem Sg.upd{a p c b:Addr}{ns:List Int}{H:Hp}{i:Int}{aH:List (Key×V)}{o:HO}(g:Sg K a p c ns H i)(hb:H b=some (.dK aH)):Sg K a p c ns (L2.upd H b o) i:=by refine⟨g.T.upd hb,?_⟩;obtain⟨x,y,z,d,f,h,hc⟩:=g.pl;refine⟨x,y,z,d,f,h,?_⟩;rw[aZ (λe=>by rw[e,hb]at hc;cases hc)];exact hc
theorem Sg.mono{a p c:Addr}{ns:List Int}{H H':Hp}{i:Int}(g:Sg K a p c ns H i)(s:aM H H'):Sg K a p c ns H' i:=g.next s.x (s _ _ g.T.gh) g.T.i0
theorem Sg.rep{a p c:Addr}{ns:List Int}{H H':Hp}{i:Int}{d:D}{v:V}(g:Sg K a p c ns H i)(s:bx p H H')(r:Rep H d v):Rep H' d v:=g.T.rep s r
noncomputable def cst(n:Nat):Int:=10^(n+1)
theorem xp(n:Nat):cst (n+1)=10*cst n:=by unfold cst;rw[Int.pow_succ];lia
theorem jc:∀n:Nat,10<=cst n|0=>by decide|n+1=>by have :=jc n;rw[xp];lia
noncomputable def p5(n:Nat):Nat:=5^n
theorem BM(n:Nat):p5 (n+1)=5*p5 n:=by unfold p5;rw[Nat.pow_succ];lia
theorem mi:∀n:Nat,1<=p5 n|0=>by decide|n+1=>by have :=mi n;rw[BM];lia
structure Ou(K:PySem.W.Frag)(a p c:Addr)(ns:List Int)(H:Hp)(i:Int)(k:Bool)(dp kn:Nat)(co:Int)(d:D)(v:V)(H':Hp)(i':Int):Prop where
 r:Rep H' d v
 wf:bu aw k d=true
 dp:depth d<=dp
 kn:aC d<=kn
 sx:bx p H H'
 g:Sg K a p c ns H' i'
 lo:i<=i'
 hi:i'<=i+co
theorem Ou.weak{a p c:Addr}{ns:List Int}{H H':Hp}{i i':Int}{k:Bool}{dp kn e f:Nat}{co b:Int}{d:D}{v:V}(o:Ou K a p c ns H i k dp kn co d v H' i')(h1:dp<=e)(h2:kn<=f)(h3:co<=b):Ou K a p c ns H i k e f b d v H' i':=⟨o.r,o.wf,c8 o.dp h1,c8 o.kn h2,o.sx,o.g,o.lo,by have :=o.hi;lia⟩
theorem Ou.after{a p c:Addr}{ns:List Int}{H b H':Hp}{i j i':Int}{k:Bool}{dp kn:Nat}{co co1:Int}{d:D}{v:V}(o:Ou K a p c ns b j k dp kn co d v H' i')(s:bx p H b)(h1:i<=j)(h2:j<=i+co1):Ou K a p c ns H i k dp kn (co1+co) d v H' i':=⟨o.r,o.wf,o.dp,o.kn,s.trans o.sx,o.g,by have :=o.lo;lia,by have :=o.hi;lia⟩
theorem Ou.later{a p c:Addr}{ns:List Int}{H H' b:Hp}{i i':Int}{k:Bool}{dp kn:Nat}{co:Int}{d:D}{v:V}(o:Ou K a p c ns H i k dp kn co d v H' i')(s:bx p H' b):Rep b d v:=o.g.rep s o.r
theorem made{a p c q:Addr}{ns:List Int}{H b:Hp}{i i2:Int}{k:Bool}{dp kn:Nat}{co:Int}{ds:List D}{vs:List V}(s:bx p H b)(g:Sg K a p c ns b i2)(hq:b q=none)(r:bz b ds vs)(wf:bu aw k (.tup ds)=true)(h1:depth (.tup ds)<=dp)(h2:aC (.tup ds)<=kn)(lo:i<=i2)(hi:i2<=i+co):Ou K a p c ns H i k dp kn co (.tup ds) (.ref q) (upd b q (.tup vs)) i2:=⟨eC hq r,wf,h1,h2,s.trans (aq hq _).x,g.mono (aq hq _),lo,hi⟩
def d9(K:PySem.W.Frag)(k:Bool)(n:Nat):Sp:=λvs H Q _=>∃(a p c:Addr)(ns:List Int)(i deep near:Int),vs=[.ref a, .ref p, .int deep, .int near, .ref c]/\Sg K a p c ns H i/\i+cst n<2^58/\-1<=deep/\deep+1<n/\n<=10/\0<=near/\near+n<=99/\∀(d:D)(v:V)(H':Hp)(i':Int),Ou K a p c ns H i k (2*n+2) (3*p5 n) (cst n) d v H' i'->Q v H'
def ke(K:PySem.W.Frag)(n dp kn:Nat)(co:Int):Sp:=λvs H Q _=>∃(a p c:Addr)(ns:List Int)(i deep near:Int),vs=[.ref a, .ref p, .int deep, .int near, .ref c]/\Sg K a p c ns H i/\i+4*cst n<2^58/\1<=deep/\deep<n/\n<=9/\0<=near/\near+n+1<=99/\∀(d:D)(v:V)(H':Hp)(i':Int),Ou K a p c ns H i false dp kn co d v H' i'->Q v H'
def Hs(K:PySem.W.Frag):Sp:=λvs H Q _=>∃(a p c:Addr)(ns:List Int)(i near:Int),vs=[.ref a, .ref p, .int near, .ref c]/\Sg K a p c ns H i/\i<2^59/\0<=near/\near<=99/\∀(d:D)(v:V)(H':Hp)(i':Int),Ou K a p c ns H i false 2 2 2 d v H' i'->Q v H'
theorem pN:aT ["_law_script","_law_tape","_law_near","_law_pool_here","_law_way"] ["_law_script","_law_tape","_law_near","_law_pool_here"] (ar jz):=⟨rfl,rfl,rfl,by decide+kernel,rfl,by decide+kernel,by decide+kernel⟩
theorem Gm(D:Df K mg "_law_leaf" jz ["_law_script","_law_tape","_law_near","_law_pool_here"])(M:Mg mg t)(r:bp P w K mg bE "_law_draw" (1) C4 (eJ K)):bp P w K mg bE "_law_leaf" (131) ["_law_script","_law_tape","_law_near","_law_pool_here"] (Hs K):=by
 refine D.ok pN (λvs H Q E h=>?_) (λbase f cS A outer s H vs Q E l h=>?_);·obtain⟨a,p,c,ns,i,near,rfl,_⟩:=h;rfl
 obtain⟨a,p,c,ns,i,near,rfl,g,hi,S,T,q⟩:=h;have hh:=l.hd (by decide);have i0:=g.T.i0;refine⟨_,(ai (aF (i:=4) pN.nd rfl (bY rfl) (aJ r l.m rfl aK (ae (pv 0) (ae (pv 1) (ae ah ag))))) (ai (ba (aI bR (pv 4) ah (aQ _)) (aj (ay (av (ae ao ag)))) aO) (ai (ba (aI bR (pv 4) ah (aQ _)) (aj (ay (av (ae ao (ae (aP bQ (pv 3) (aJ r l.m rfl aK (ae (pv 0) (ae (pv 1) (ae ah ag)))) (λ_ _=>rfl)) ag))))) aO) (ai (ba (aI bR (pv 2) ah (aQ _)) (aj (ay (av (ae ao (ae (av (ae ao ag)) ag))))) aO) (ai (ba (aI bR (pv 4) ah (aQ _)) (aj (ay (av (ae ao (ae (aJ r l.m rfl aK (ae (pv 0) (ae (pv 1) (ae (pv 2) ag)))) ag))))) aO) (aj (ay (av (ae ao (ae (aJ r l.m rfl aK (ae (pv 0) (ae (pv 1) (ae (bj (Na hh) rfl M.ab7 ZS (ae (pv 2) (ae ah ag))) ag)))) ag)))))))))),?_⟩;try dsimp only[gu,O]
 refine MU ?_;intro _ _ _ _ _ _;refine⟨_,rfl,_,rfl,a,p,ns,i,6,rfl,g.T,(by lia),(by decide),λU v w0 w1 m h1=>?_⟩;have j:=g.next m h1 (by lia);have zero:∀{q:Addr},v q=none->Ou K a p c ns H i false 2 2 2 (.tup [.str "zero"]) (.ref q) (upd v q (.tup [V.str "zero"])) (i+1):=λhq=>made m j hq (rs ir r0) fD (by simp[depth,aD]) (by simp[aC,aL]) (by lia) (by lia);refine⟨_,rfl,rfl,_,rfl,aY (λ_=>⟨(cN rfl),λq1 b=>q _ _ _ _ (zero b)⟩) (λ_=>?_)⟩;refine⟨_,rfl,rfl,_,rfl,aY (λ_=>?_) (λ_=>?_)⟩
 ·obtain⟨x,y,z,J,L,N,hc⟩:=j.pl;refine⟨_,rfl,_,rfl,_,rfl,a,p,ns,i+1,3,rfl,j.T,(by lia),(by decide),λat_ k a0 a1 d h2=>?_⟩;have C:=j.next d h2 (by lia);have F:k c=some (.lst [.str x, .str y, .str z]):=d _ _ (λe=>by subst e;rw[j.T.gh]at hc;cases hc) hc;obtain⟨o,G,R⟩:∃o:Str,lP [V.str x, .str y, .str z] at_=some (.str o)/\o.length<=101:=by
   have :at_=0\/at_=1\/at_=2:=by lia
   rcases this with rfl|rfl|rfl;·exact⟨x,rfl,J⟩
   ·exact⟨y,rfl,L⟩
   ·exact⟨z,rfl,N⟩
  refine⟨c,_,_,_,rfl,rfl,bH.of F,G,(cN rfl),λq1 b=>q _ _ _ _ (made (m.trans d) C b (rs ir (rs (ir (by lia)) r0)) (Bb rfl) (by simp[depth,aD]) (by simp[aC,aL]) (by lia) (by lia))⟩
 refine⟨_,rfl,rfl,_,rfl,aY (λ_=>?_) (λB=>?_)⟩;·refine⟨(cN rfl),λq1 b=>⟨(cN rfl),λq2 I=>?_⟩⟩;have s1:=aq b (.tup [V.str "zero"]);exact q _ _ _ _ (made (m.trans s1.x) (j.mono s1) I (rs ir (rs (eC b (rs ir r0)) r0)) (kH fD) (by simp[depth,aD]) (by simp[aC,aL]) (by lia) (by lia))
 have hn:0<near:=by have :near≠0:=λz=>B (by rw[z];exact decide_eq_true rfl);lia
 have var:∀{z:Int}{k:Hp}{q:Addr},0<=z->z<near->bx p v k->k p=some (.lst [.int (i+1+1)])->k q=none->Ou K a p c ns H i false 2 2 2 (.tup [.str "var", .int z]) (.ref q) (upd k q (.tup [V.str "var", .int z])) (i+1+1):=λn u d h2 hq=>made (m.trans d) (j.next d h2 (by lia)) hq (rs ir (rs ri r0)) (Ye n (by lia)) (by simp[depth,aD]) (by simp[aC,aL]) (by lia) (by lia);refine⟨_,rfl,rfl,_,rfl,aY (λ_=>?_) (λ_=>?_)⟩;·refine⟨_,rfl,_,rfl,_,rfl,a,p,ns,i+1,near,rfl,j.T,(by lia),hn,λz k n u d h2=>⟨(cN rfl),λq1 b=>q _ _ _ _ (var n u d h2 b)⟩⟩
 ·refine⟨_,rfl,_,rfl,_,rfl,near,3,rfl,a,p,ns,i+1,_,rfl,j.T,(by lia),(by split<;>lia),λz k n u d h2=>⟨(cN rfl),λq1 b=>q _ _ _ _ (var n ?_ d h2 b)⟩⟩;split at u<;>lia
theorem Ux{a:D->Bool}:bu a true (.tup [.str "none"])=true:=by refine cX (w:="none") (s:="") (by decide+kernel) (by decide+kernel) ?_;rw[show(Str.ofString "").cps.toList=[]by decide+kernel];simp[dZ]
theorem Iy{a:D->Bool}{d0 b:D}(c:bu a true d0=true)(h1:bu a false b=true):bu a false (.tup [.str "like",d0,b])=true:=by refine cX (w:="like") (s:="kt") (by decide+kernel) (by decide+kernel) ?_;rw[show(Str.ofString "kt").cps.toList=[107,116]by decide+kernel,aN,aN];simp[dg,dZ,c,h1]
theorem Bl{a:D->Bool}{d0 b c:D}(d:bu a true d0=true)(h1:bu a false b=true)(h2:bu a false c=true):bu a false (.tup [.str "pair",d0,b,c])=true:=by refine cX (w:="pair") (s:="ktt") (by decide+kernel) (by decide+kernel) ?_;rw[show(Str.ofString "ktt").cps.toList=[107,116,116]by decide+kernel,aN,aN,aN];simp[dg,dZ,d,h1,h2]
theorem pE{a:D->Bool}{d0:D}(b:bu a false d0=true):bu a false (.tup [.str "second",d0])=true:=by refine cX (w:="second") (s:="t") (by decide+kernel) (by decide+kernel) ?_;rw[show(Str.ofString "t").cps.toList=[116]by decide+kernel,aN];simp[dg,dZ,b]
theorem fK:aT ["_law_script","_law_tape","_law_deep","_law_near","_law_pool_here","_law_way","_law_first","_law_kind_here"] eN (ar gG):=⟨rfl,rfl,rfl,by decide+kernel,rfl,by decide+kernel,by decide+kernel⟩
theorem DR{n:Nat}(D:Df K mg "_law_kind" gG eN)(M:Mg mg t)(aB:bp P w K mg bE "_law_draw" (1) C4 (eJ K))(J:bp P w K mg bE "_law_kind" (3*n+132) eN (d9 K true n))(U:bp P w K mg bE "_law_term" (3*n+132) eN (d9 K false n)):bp P w K mg bE "_law_kind" (3*n+135) eN (d9 K true (n+1)):=by
 refine D.ok fK (λvs H Q E h=>?_) (λbase f cS A outer s H vs Q E o h=>?_);·obtain⟨a,p,c,ns,i,deep,near,rfl,_⟩:=h;rfl
 obtain⟨a,p,c,ns,i,deep,near,rfl,g,hi,d0,d1,hn,I,n1,q⟩:=h;have i0:=g.T.i0;have e:=xp n;have XZ:=jc n;have e5:=BM n;have p1:=mi n;rw[e]at hi q;rw[e5]at q;refine⟨_,(ai (aF (i:=5) fK.nd rfl (bY rfl) (aJ aB o.m rfl aK (ae (pv 0) (ae (pv 1) (ae ah ag))))) (ai (ba (L2.PW.pt (kW (aI jK (pv 2) ah (aQ _)) (j1 (aI jK (pv 5) ah (aQ _))))) (aj (ay (aP bQ (cq (ae (av (ae ao ag)) (ae (av (ae ao ag)) (ae (av (ae ao ag)) ag)))) (aS gW (pv 5) ah) (λ_ _=>rfl)))) aO) (ai (ba (aI jK (pv 5) ah (aQ _)) (ai (aF (i:=6) fK.nd rfl (bY rfl) (aJ J o.m rfl aK (ae (pv 0) (ae (pv 1) (ae (aS bG (pv 2) ah) (ae (pv 3) (ae (pv 4) ag))))))) (aj (ay (av (ae (aP bQ (cq (ae ao (ae ao ag))) (aS bG (pv 5) ah) (λ_ _=>rfl)) (ae (pv 6) (ae (aJ J o.m rfl aK (ae (pv 0) (ae (pv 1) (ae (aS bG (pv 2) ah) (ae (aS cE (pv 3) ah) (ae (pv 4) ag)))))) ag))))))) aO) (ai (aF (i:=6) fK.nd rfl (bY rfl) (aJ U o.m rfl aK (ae (pv 0) (ae (pv 1) (ae (aS bG (pv 2) ah) (ae (pv 3) (ae (pv 4) ag))))))) (ai (aF (i:=7) fK.nd rfl (bY rfl) (aJ J o.m rfl aK (ae (pv 0) (ae (pv 1) (ae (aS bG (pv 2) ah) (ae (pv 3) (ae (pv 4) ag))))))) (aj (ay (av (ae ao (ae (pv 7) (ae (pv 6) (ae (aJ U o.m rfl aK (ae (pv 0) (ae (pv 1) (ae (aS bG (pv 2) ah) (ae (pv 3) (ae (pv 4) ag)))))) ag)))))))))))),?_⟩;try dsimp only[gu,cH]
 refine MU ?_;intro _ _ _ _ _ _;refine⟨_,rfl,_,rfl,a,p,ns,i,7,rfl,g.T,(by lia),(by decide),λl m w0 w1 z h1=>?_⟩;have B:=g.next z h1 (by lia);have VR:∀j:Hp,bx p H j->Sg K a p c ns j (i+1)->∀(x:Str)(r:Addr),(x="nat"\/x="none")->Rep j (.tup [.str x]) (.ref r)->Q (.ref r) j:=λj sx C x r G F=>by
  refine q (.tup [.str x]) _ j (i+1) ⟨F,?_,by simp only[depth,aD];lia,by simp only[aC,aL];lia,sx,C,by lia,by lia⟩;rcases G with rfl|rfl;·exact jV
  ·exact Ux
 refine⟨_,rfl,_,_,rfl,rfl,_,rfl,?_⟩;have Vf:∀(R:VK),(∀(j:Hp)(x:Str)(r:Addr),bx p H j->Sg K a p c ns j (i+1)->(x="nat"\/x="none")->Rep j (.tup [.str x]) (.ref r)->R (.ref r) j)->∀(q1 q2 q3 q4:Addr),m q1=none->(upd m q1 (.tup [V.str "nat"])) q2=none->(upd (upd m q1 (.tup [V.str "nat"])) q2 (.tup [V.str "nat"])) q3=none->(upd (upd (upd m q1 (.tup [V.str "nat"])) q2 (.tup [V.str "nat"])) q3 (.tup [V.str "none"])) q4=none->∃v,lP [V.ref q1, .ref q2, .ref q3] (l%3)=some v/\(upd (upd (upd (upd m q1 (.tup [V.str "nat"])) q2 (.tup [V.str "nat"])) q3 (.tup [V.str "none"])) q4 (.lst [V.ref q1, .ref q2, .ref q3])) q4=some (.lst [V.ref q1, .ref q2, .ref q3])/\R v (upd (upd (upd (upd m q1 (.tup [V.str "nat"])) q2 (.tup [V.str "nat"])) q3 (.tup [V.str "none"])) q4 (.lst [V.ref q1, .ref q2, .ref q3])):=λR O q1 q2 q3 q4 e1 e2 e3 e4=>by
  have t1:=aq e1 (.tup [V.str "nat"]);have t2:=aq e2 (.tup [V.str "nat"]);have T:=aq e3 (.tup [V.str "none"]);have t4:=aq e4 (.lst [V.ref q1, .ref q2, .ref q3]);have ra:=(eC e1 (rs (ir (x:="nat")) r0)).mono (t2.trans (T.trans t4));have rb:=(eC e2 (rs (ir (x:="nat")) r0)).mono (T.trans t4);have rc:=(eC e3 (rs (ir (x:="none")) r0)).mono t4;have u:=t1.trans (t2.trans (T.trans t4));have h:l%3=0\/l%3=1\/l%3=2:=by lia
  rcases h with h|h|h;·exact⟨_,by rw[h];rfl,ak,O _ "nat" q1 (z.trans u.x) (B.mono u) (.inl rfl) ra⟩
  ·exact⟨_,by rw[h];rfl,ak,O _ "nat" q2 (z.trans u.x) (B.mono u) (.inl rfl) rb⟩
  ·exact⟨_,by rw[h];rfl,ak,O _ "none" q3 (z.trans u.x) (B.mono u) (.inr rfl) rc⟩
 have one:1<=sizeLine:=by decide
 refine aY (λcd=>?_) (λcd=>?_);·refine qR ⟨one,λq1 e1=>⟨one,λq2 e2=>⟨one,λq3 e3=>⟨(cN rfl),λq4 e4=>?_⟩⟩⟩⟩;obtain⟨v,S,h4,hq⟩:=Vf Q (λj x r sx C G F=>VR j sx C x r G F) q1 q2 q3 q4 e1 e2 e3 e4;exact⟨_,rfl,_,_,rfl,rfl,(by show(0:Int)<3;decide),q4,_,_,v,rfl,rfl,bH.of h4,S,hq⟩
 refine⟨_,rfl,_,_,rfl,rfl,_,rfl,?_⟩;refine aY (λL=>?_) (λL=>?_);·refine⟨one,λq1 e1=>⟨one,λq2 e2=>⟨one,λq3 e3=>⟨(cN rfl),λq4 e4=>?_⟩⟩⟩⟩;obtain⟨v,S,h4,hq⟩:=Vf Q (λj x r sx C G F=>VR j sx C x r G F) q1 q2 q3 q4 e1 e2 e3 e4;exact⟨_,rfl,_,_,rfl,rfl,(by show(0:Int)<3;decide),q4,_,_,v,rfl,rfl,bH.of h4,S,hq⟩
 have cd:¬deep<1:=of_decide_eq_false (Bool.eq_false_iff.mpr cd);have L:¬l<3:=of_decide_eq_false (Bool.eq_false_iff.mpr L);refine⟨_,rfl,_,_,rfl,rfl,_,rfl,?_⟩;refine aY (λN=>?_) (λN=>?_)
 ·have N:l<5:=of_decide_eq_true N;refine⟨_,rfl,_,rfl,_,rfl,_,_,rfl,rfl,_,rfl,_,rfl,a,p,c,ns,i+1,deep-1,near,rfl,B,(by lia),(by lia),(by lia),(by lia),I,(by lia),λW vA j i2 d=>?_⟩;refine⟨(cN rfl),λq1 e1=>?_⟩;have t1:=aq e1 (.lst [V.str "all", .str "some"]);obtain⟨y,hy,Y⟩:∃y:Str,lP [V.str "all", .str "some"] (l-3)=some (.str y)/\(y="all"\/y="some"):=by
   have :l=3\/l=4:=by lia
   rcases this with rfl|rfl;·exact⟨_,rfl, .inl rfl⟩
   ·exact⟨_,rfl, .inr rfl⟩
  have hA:=d.hi;have lA:=d.lo;refine⟨_,rfl,_,_,rfl,rfl,q1,_,_,_,rfl,rfl,bH.of ak,hy,_,rfl,?_⟩;refine⟨_,rfl,_,rfl,_,rfl,_,_,rfl,rfl,_,rfl,_,_,rfl,rfl,_,rfl,a,p,c,ns,i2,deep-1,near+1,rfl,d.g.mono t1,(by lia),(by lia),(by lia),(by lia),(by lia),(by lia),λX vB H3 Z b=>⟨(cN rfl),λq2 e2=>?_⟩⟩;have hB:=b.hi;have lB:=b.lo;have sAB:=t1.x.trans b.sx;have a1:=d.dp;have a2:=b.dp;have a3:=d.kn;have a4:=b.kn;have hw:bu aw true (.tup [.str y,W,X])=true:=by
   rcases Y with rfl|rfl;·exact Hd d.wf b.wf
   ·exact IB d.wf b.wf
  have hyl:y.length<=1000:=by rcases Y with rfl|rfl<;>decide
  exact q _ _ _ _ (made ((z.trans d.sx).trans sAB) b.g e2 (rs (ir hyl) (rs (d.later sAB) (rs b.r r0))) hw (by apply KM.d0;with_reducible repeat' first|apply KM.md|apply KM.ny|apply KM.q0|apply KM.q4|apply KM.q3|apply KM.q2|apply KM.q1|lia) (by simp only[aC,aL];lia) (by lia) (by lia))
 ·refine⟨_,rfl,_,rfl,_,rfl,_,_,rfl,rfl,_,rfl,_,rfl,a,p,c,ns,i+1,deep-1,near,rfl,B,(by lia),(by lia),(by lia),(by lia),I,(by lia),λW vA j i2 d=>?_⟩;have hA:=d.hi;have lA:=d.lo;refine⟨_,rfl,_,rfl,_,rfl,_,_,rfl,rfl,_,rfl,_,rfl,a,p,c,ns,i2,deep-2,near,rfl,d.g,(by lia),(by lia),(by lia),(by lia),I,(by lia),λX vB H3 Z b=>?_⟩;have hB:=b.hi;have lB:=b.lo;refine⟨_,rfl,_,rfl,_,rfl,_,rfl,_,rfl,_,_,rfl,rfl,_,rfl,_,rfl,a,p,c,ns,Z,deep-1,near,rfl,b.g,(by lia),(by lia),(by lia),(by lia),I,(by lia),λdC vC H4 i4 k=>⟨(cN rfl),λq2 e2=>?_⟩⟩;have hC:=k.hi;have lC:=k.lo;have a1:=d.dp;have a2:=b.dp;have a3:=d.kn;have a4:=b.kn;have a5:=k.dp;have a6:=k.kn;exact q _ _ _ _ (made ((z.trans d.sx).trans (b.sx.trans k.sx)) k.g e2 (rs ir (rs (b.later k.sx) (rs (d.later (b.sx.trans k.sx)) (rs k.r r0)))) (Tj b.wf d.wf k.wf) (by apply KM.d0;with_reducible repeat' first|apply KM.md|apply KM.ny|apply KM.q0|apply KM.q4|apply KM.q3|apply KM.q2|apply KM.q1|lia) (by simp only[aC,aL];lia) (by lia) (by lia))
theorem y_:aT ["_law_script","_law_tape","_law_deep","_law_near","_law_pool_here","_law_kind_here"] eN (ar iS):=⟨rfl,rfl,rfl,by decide+kernel,rfl,by decide+kernel,by decide+kernel⟩
theorem Mj{n:Nat}(D:Df K mg "_law_fun" iS eN)(M:Mg mg t)(j:bp P w K mg bE "_law_kind" (3*n+132) eN (d9 K true n))(k:bp P w K mg bE "_law_term" (3*n+132) eN (d9 K false n)):bp P w K mg bE "_law_fun" (3*n+133) eN (ke K n (2*n+3) (1+6*p5 n) (2*cst n)):=by
 refine D.ok y_ (λvs H Q E h=>?_) (λbase f cS A outer s H vs Q E e h=>?_);·obtain⟨a,p,c,ns,i,deep,near,rfl,_⟩:=h;rfl
 obtain⟨a,p,c,ns,i,deep,near,rfl,g,hi,d0,u,hn,L,N,q⟩:=h;have i0:=g.T.i0;have o:=jc n;have O:=mi n;refine⟨_,(ai (aF (i:=5) y_.nd rfl (bY rfl) (aJ j e.m rfl aK (ae (pv 0) (ae (pv 1) (ae (aS bG (pv 2) ah) (ae (pv 3) (ae (pv 4) ag))))))) (aj (ay (av (ae ao (ae (pv 5) (ae (aJ k e.m rfl aK (ae (pv 0) (ae (pv 1) (ae (aS bG (pv 2) ah) (ae (aS cE (pv 3) ah) (ae (pv 4) ag)))))) ag))))))),?_⟩;try dsimp only[gu,r]
 refine pb ?_;intro _ _;refine⟨_,rfl,_,rfl,_,rfl,_,_,rfl,rfl,_,rfl,_,rfl,a,p,c,ns,i,deep-2,near,rfl,g,(by lia),(by lia),(by lia),(by lia),(by lia),(by lia),λv R l i1 d=>?_⟩;have B:=d.hi;have I:=d.lo;have y:=d.dp;have F:=d.kn;refine⟨_,rfl,_,rfl,_,rfl,_,rfl,_,_,rfl,rfl,_,rfl,_,_,rfl,rfl,_,rfl,a,p,c,ns,i1,deep-1,near+1,rfl,d.g,(by lia),(by lia),(by lia),(by lia),(by lia),(by lia),λx S m i2 b=>?_⟩;have C:=b.hi;have J:=b.lo;have z:=b.dp;have G:=b.kn;refine⟨(cN rfl),λq1 e1=>?_⟩;exact q _ _ _ _ (made (d.sx.trans b.sx) b.g e1 (rs ir (rs (d.later b.sx) (rs b.r r0))) (CS d.wf b.wf) (by apply KM.d0;with_reducible repeat' first|apply KM.md|apply KM.ny|apply KM.q0|apply KM.q4|apply KM.q3|apply KM.q2|apply KM.q1|lia) (by simp only[aC,aL];lia) (by lia) (by lia))
theorem j9:aT ["_law_script","_law_tape","_law_deep","_law_near","_law_pool_here","_law_kind_here","_law_first"] eN (ar gS):=⟨rfl,rfl,rfl,by decide+kernel,rfl,by decide+kernel,by decide+kernel⟩
theorem Gd{n:Nat}(D:Df K mg "_law_pair" gS eN)(M:Mg mg t)(l:bp P w K mg bE "_law_kind" (3*n+132) eN (d9 K true n))(k:bp P w K mg bE "_law_term" (3*n+132) eN (d9 K false n)):bp P w K mg bE "_law_pair" (3*n+133) eN (ke K n (2*n+3) (1+9*p5 n) (3*cst n)):=by
 refine D.ok j9 (λvs H Q E h=>?_) (λbase f cS A outer s H vs Q E j h=>?_);·obtain⟨a,p,c,ns,i,deep,near,rfl,_⟩:=h;rfl
 obtain⟨a,p,c,ns,i,deep,near,rfl,g,hi,d0,x,hn,W,X,q⟩:=h;have i0:=g.T.i0;have u:=jc n;have Y:=mi n;refine⟨_,(ai (aF (i:=5) j9.nd rfl (bY rfl) (aJ l j.m rfl aK (ae (pv 0) (ae (pv 1) (ae (aS bG (pv 2) ah) (ae (pv 3) (ae (pv 4) ag))))))) (ai (aF (i:=6) j9.nd rfl (bY rfl) (aJ k j.m rfl aK (ae (pv 0) (ae (pv 1) (ae (aS bG (pv 2) ah) (ae (pv 3) (ae (pv 4) ag))))))) (aj (ay (av (ae ao (ae (pv 5) (ae (pv 6) (ae (aJ k j.m rfl aK (ae (pv 0) (ae (pv 1) (ae (aS bG (pv 2) ah) (ae (pv 3) (ae (pv 4) ag)))))) ag))))))))),?_⟩;try dsimp only[gu,v]
 refine Cy ?_;intro _ _ _;refine⟨_,rfl,_,rfl,_,rfl,_,_,rfl,rfl,_,rfl,_,rfl,a,p,c,ns,i,deep-2,near,rfl,g,(by lia),(by lia),(by lia),(by lia),(by lia),(by lia),λy Z m i1 e=>?_⟩;have I:=e.hi;have T:=e.lo;have C:=e.dp;have O:=e.kn;refine⟨_,rfl,_,rfl,_,rfl,_,_,rfl,rfl,_,rfl,_,rfl,a,p,c,ns,i1,deep-1,near,rfl,e.g,(by lia),(by lia),(by lia),(by lia),(by lia),(by lia),λz vB o i2 d=>?_⟩;have J:=d.hi;have U:=d.lo;have F:=d.dp;have R:=d.kn;refine⟨_,rfl,_,rfl,_,rfl,_,rfl,_,rfl,_,_,rfl,rfl,_,rfl,_,rfl,a,p,c,ns,i2,deep-1,near,rfl,d.g,(by lia),(by lia),(by lia),(by lia),(by lia),(by lia),λB vC r N b=>?_⟩;have L:=b.hi;have V:=b.lo;have G:=b.dp;have S:=b.kn;refine⟨(cN rfl),λq1 e1=>?_⟩;exact q _ _ _ _ (made (e.sx.trans (d.sx.trans b.sx)) b.g e1 (rs ir (rs (e.later (d.sx.trans b.sx)) (rs (d.later b.sx) (rs b.r r0)))) (Bl e.wf d.wf b.wf) (by apply KM.d0;with_reducible repeat' first|apply KM.md|apply KM.ny|apply KM.q0|apply KM.q4|apply KM.q3|apply KM.q2|apply KM.q1|lia) (by simp only[aC,aL];lia) (by lia) (by lia))
theorem qo:aT ["_law_script","_law_tape","_law_deep","_law_near","_law_pool_here","_law_kind_here"] eN (ar gA):=⟨rfl,rfl,rfl,by decide+kernel,rfl,by decide+kernel,by decide+kernel⟩
theorem Gz{n:Nat}(D:Df K mg "_law_like" gA eN)(M:Mg mg t)(j:bp P w K mg bE "_law_kind" (3*n+132) eN (d9 K true n))(k:bp P w K mg bE "_law_term" (3*n+132) eN (d9 K false n)):bp P w K mg bE "_law_like" (3*n+133) eN (ke K n (2*n+3) (1+6*p5 n) (2*cst n)):=by
 refine D.ok qo (λvs H Q E h=>?_) (λbase f cS A outer s H vs Q E e h=>?_);·obtain⟨a,p,c,ns,i,deep,near,rfl,_⟩:=h;rfl
 obtain⟨a,p,c,ns,i,deep,near,rfl,g,hi,d0,u,hn,L,N,q⟩:=h;have i0:=g.T.i0;have o:=jc n;have O:=mi n;refine⟨_,(ai (aF (i:=5) qo.nd rfl (bY rfl) (aJ j e.m rfl aK (ae (pv 0) (ae (pv 1) (ae (aS bG (pv 2) ah) (ae (pv 3) (ae (pv 4) ag))))))) (aj (ay (av (ae ao (ae (pv 5) (ae (aJ k e.m rfl aK (ae (pv 0) (ae (pv 1) (ae (aS bG (pv 2) ah) (ae (pv 3) (ae (pv 4) ag)))))) ag))))))),?_⟩;try dsimp only[gu,r]
 refine pb ?_;intro _ _;refine⟨_,rfl,_,rfl,_,rfl,_,_,rfl,rfl,_,rfl,_,rfl,a,p,c,ns,i,deep-2,near,rfl,g,(by lia),(by lia),(by lia),(by lia),(by lia),(by lia),λv R l i1 d=>?_⟩;have B:=d.hi;have I:=d.lo;have y:=d.dp;have F:=d.kn;refine⟨_,rfl,_,rfl,_,rfl,_,rfl,_,_,rfl,rfl,_,rfl,_,rfl,a,p,c,ns,i1,deep-1,near,rfl,d.g,(by lia),(by lia),(by lia),(by lia),(by lia),(by lia),λx S m i2 b=>?_⟩;have C:=b.hi;have J:=b.lo;have z:=b.dp;have G:=b.kn;refine⟨(cN rfl),λq1 e1=>?_⟩;exact q _ _ _ _ (made (d.sx.trans b.sx) b.g e1 (rs ir (rs (d.later b.sx) (rs b.r r0))) (Iy d.wf b.wf) (by apply KM.d0;with_reducible repeat' first|apply KM.md|apply KM.ny|apply KM.q0|apply KM.q4|apply KM.q3|apply KM.q2|apply KM.q1|lia) (by simp only[aC,aL];lia) (by lia) (by lia))
theorem zQ:aT eN eN (ar eV):=⟨rfl,rfl,rfl,by decide+kernel,rfl,by decide+kernel,by decide+kernel⟩
theorem BC{n:Nat}(D:Df K mg "_law_number" eV eN)(M:Mg mg t)(j:bp P w K mg bE "_law_draw" (1) C4 (eJ K))(k:bp P w K mg bE "_law_term" (3*n+132) eN (d9 K false n)):bp P w K mg bE "_law_number" (3*n+133) eN (ke K n (2*n+3) (1+3*p5 n) (1+cst n)):=by
 refine D.ok zQ (λvs H Q E h=>?_) (λbase f cS A outer s H vs Q E e h=>?_);·obtain⟨a,p,c,ns,i,deep,near,rfl,_⟩:=h;rfl
 obtain⟨a,p,c,ns,i,deep,near,rfl,g,hi,d0,v,hn,F,G,q⟩:=h;have i0:=g.T.i0;have r:=jc n;have I:=mi n;refine⟨_,(ai (ba (aI bR (aJ j e.m rfl aK (ae (pv 0) (ae (pv 1) (ae ah ag)))) ah (aQ _)) (aj (ay (av (ae ao ag)))) aO) (aj (ay (av (ae ao (ae (aJ k e.m rfl aK (ae (pv 0) (ae (pv 1) (ae (aS bG (pv 2) ah) (ae (pv 3) (ae (pv 4) ag)))))) ag)))))),?_⟩;try dsimp only[gu,u]
 refine pb ?_;intro _ _;refine⟨_,rfl,_,rfl,a,p,ns,i,3,rfl,g.T,(by lia),(by decide),λL m w0 w1 x0 l=>⟨rfl,_,rfl,?_⟩⟩;have d:=g.next x0 l (by lia);refine aY (λ_=>?_) (λ_=>?_);·refine⟨(cN rfl),λq1 e1=>?_⟩;exact q _ _ _ _ (made x0 d e1 (rs ir r0) fD (by apply KM.d0;with_reducible repeat' first|apply KM.md|apply KM.ny|apply KM.q0|apply KM.q4|apply KM.q3|apply KM.q2|apply KM.q1|lia) (by simp only[aC,aL];lia) (by lia) (by lia))
 refine⟨_,rfl,_,rfl,_,rfl,_,_,rfl,rfl,_,rfl,_,rfl,a,p,c,ns,i+1,deep-1,near,rfl,d,(by lia),(by lia),(by lia),(by lia),(by lia),(by lia),λx J o i1 b=>?_⟩;have z:=b.hi;have C:=b.lo;have y:=b.dp;have B:=b.kn;refine⟨(cN rfl),λq1 e1=>?_⟩;exact q _ _ _ _ (made (x0.trans b.sx) b.g e1 (rs ir (rs b.r r0)) (kH b.wf) (by apply KM.d0;with_reducible repeat' first|apply KM.md|apply KM.ny|apply KM.q0|apply KM.q4|apply KM.q3|apply KM.q2|apply KM.q1|lia) (by simp only[aC,aL];lia) (by lia) (by lia))
def JI(K:PySem.W.Frag)(n dp kn:Nat)(co:Int):Sp:=λvs H Q _=>∃(a p c:Addr)(ns:List Int)(i deep near b:Int),vs=[.ref a, .ref p, .int deep, .int near, .ref c, .int b]/\Sg K a p c ns H i/\i+9*cst n<2^58/\1<=deep/\deep<n/\n<=9/\0<=near/\near+n+1<=99/\∀(d:D)(v:V)(H':Hp)(i':Int),Ou K a p c ns H i false dp kn co d v H' i'->Q v H'
theorem eh:aT ["_law_script","_law_tape","_law_deep","_law_near","_law_pool_here","_law_way","_law_word_here","_law_kind_here","_law_first","_law_second"] MQ (ar eY):=⟨rfl,rfl,rfl,by decide+kernel,rfl,by decide+kernel,by decide+kernel⟩
theorem Ci{n:Nat}(D:Df K mg "_law_parted" eY MQ)(M:Mg mg t)(S:bp P w K mg bE "_law_draw" (1) C4 (eJ K))(W:bp P w K mg bE "_law_kind" (3*n+132) eN (d9 K true n))(u:bp P w K mg bE "_law_term" (3*n+132) eN (d9 K false n))(U:bp P w K mg bE "_law_fun" (3*n+133) eN (ke K n (2*n+3) (1+6*p5 n) (2*cst n)))(Z:bp P w K mg bE "_law_pair" (3*n+133) eN (ke K n (2*n+3) (1+9*p5 n) (3*cst n)))(X:bp P w K mg bE "_law_like" (3*n+133) eN (ke K n (2*n+3) (1+6*p5 n) (2*cst n)))(Y:bp P w K mg bE "_law_number" (3*n+133) eN (ke K n (2*n+3) (1+3*p5 n) (1+cst n))):bp P w K mg bE "_law_parted" (3*n+134) MQ (JI K n (2*n+4) (2+12*p5 n) (2+5*cst n)):=by
 refine D.ok eh (λvs H Q E h=>?_) (λbase f cS A outer s H vs Q E l h=>?_);·obtain⟨a,p,c,ns,i,deep,near,way,rfl,_⟩:=h;rfl
 obtain⟨a,p,c,ns,i,deep,near,way,rfl,g,hi,d0,m,hn,o,r,q⟩:=h;have i0:=g.T.i0;have XZ:=jc n;have p1:=mi n;refine⟨_,(ai (ba (aI bR (pv 5) ah (aQ _)) (aj (ay (av (ae ao (ae (aJ U l.m rfl aK (ae (pv 0) (ae (pv 1) (ae (pv 2) (ae (pv 3) (ae (pv 4) ag)))))) (ae (aJ u l.m rfl aK (ae (pv 0) (ae (pv 1) (ae (aS bG (pv 2) ah) (ae (pv 3) (ae (pv 4) ag)))))) ag)))))) aO) (ai (ba (aI bR (pv 5) ah (aQ _)) (ai (aF (i:=6) eh.nd rfl (bY rfl) (aP bQ (cq (ae ao (ae ao ag))) (aJ S l.m rfl aK (ae (pv 0) (ae (pv 1) (ae ah ag)))) (λ_ _=>rfl))) (aj (ay (av (ae (pv 6) (ae (aJ Z l.m rfl aK (ae (pv 0) (ae (pv 1) (ae (pv 2) (ae (pv 3) (ae (pv 4) ag)))))) ag)))))) aO) (ai (aF (i:=7) eh.nd rfl (bY rfl) (aJ W l.m rfl aK (ae (pv 0) (ae (pv 1) (ae (aS bG (pv 2) ah) (ae (aS cE (pv 3) ah) (ae (pv 4) ag))))))) (ai (aF (i:=8) eh.nd rfl (bY rfl) (aJ u l.m rfl aK (ae (pv 0) (ae (pv 1) (ae (aS bG (pv 2) ah) (ae (pv 3) (ae (pv 4) ag))))))) (ai (ba (aI bR (pv 5) ah (aQ _)) (aj (ay (av (ae ao (ae (pv 7) (ae (pv 8) (ae (aJ X l.m rfl aK (ae (pv 0) (ae (pv 1) (ae (pv 2) (ae (pv 3) (ae (pv 4) ag)))))) ag))))))) aO) (ai (aF (i:=9) eh.nd rfl (bY rfl) (aJ u l.m rfl aK (ae (pv 0) (ae (pv 1) (ae (aS bG (pv 2) ah) (ae (pv 3) (ae (pv 4) ag))))))) (aj (ay (av (ae ao (ae (pv 7) (ae (pv 8) (ae (pv 9) (ae (aJ Y l.m rfl aK (ae (pv 0) (ae (pv 1) (ae (pv 2) (ae (pv 3) (ae (pv 4) ag)))))) ag)))))))))))))),?_⟩;try dsimp only[gu,cH]
 refine aev ?_;intro _ _ _ _ _ _ _;refine⟨_,rfl,rfl,_,rfl,aY (λ_=>?_) (λ_=>?_)⟩;·refine⟨_,rfl,_,rfl,_,rfl,_,rfl,_,rfl,a,p,c,ns,i,deep,near,rfl,g,(by lia),d0,m,(by lia),o,r,λF R C i1 b=>?_⟩;have I:=b.hi;have O:=b.lo;have G:=b.dp;have N:=b.kn;refine⟨_,rfl,_,rfl,_,rfl,_,_,rfl,rfl,_,rfl,_,rfl,a,p,c,ns,i1,deep-1,near,rfl,b.g,(by lia),(by lia),(by lia),(by lia),(by lia),(by lia),λdB vB H2 i2 e=>?_⟩;have hB:=e.hi;have lB:=e.lo;have dpB:=e.dp;have knB:=e.kn;refine⟨(cN rfl),λq1 e1=>?_⟩;exact q _ _ _ _ (made (b.sx.trans e.sx) e.g e1 (rs ir (rs (b.later e.sx) (rs e.r r0))) (oO b.wf e.wf) (by apply KM.d0;with_reducible repeat' first|apply KM.md|apply KM.ny|apply KM.q0|apply KM.q4|apply KM.q3|apply KM.q2|apply KM.q1|lia) (by simp only[aC,aL];lia) (by lia) (by lia))
 refine⟨_,rfl,rfl,_,rfl,aY (λ_=>?_) (λ_=>?_)⟩
 ·refine⟨(cN rfl),λq0 e0=>?_⟩;have v:=aq e0 (.lst [V.str "first", .str "second"]);refine⟨_,rfl,_,rfl,a,p,ns,i,2,rfl,(g.mono v).T,(by lia),(by decide),λx H9 w0 w1 B h9=>?_⟩;have g9:=(g.mono v).next B h9 (by lia);obtain⟨y,hy,J⟩:∃y:Str,lP [V.str "first", .str "second"] x=some (.str y)/\(y="first"\/y="second"):=by
   have :x=0\/x=1:=by lia
   rcases this with rfl|rfl;·exact⟨_,rfl, .inl rfl⟩
   ·exact⟨_,rfl, .inr rfl⟩
  have xP:q0≠p:=λz=>by subst z;rw[g.T.gh]at e0;cases e0
  have hq0:=B _ _ xP (show(upd _ q0 (.lst [V.str "first", .str "second"])) q0=some _ from ak);have hyl:y.length<=1000:=by rcases J with rfl|rfl<;>decide
  have hwy:∀{d:KM.D},bu aw false d=true->bu aw false (.tup [.str y,d])=true:=λh=>by
   rcases J with rfl|rfl;·exact yr h
   ·exact pE h
  refine⟨q0,_,_,_,rfl,rfl,bH.of hq0,hy,?_⟩;refine⟨_,rfl,_,rfl,_,rfl,_,rfl,_,rfl,_,rfl,a,p,c,ns,i+1,deep,near,rfl,g9,(by lia),d0,m,(by lia),o,r,λF R C i1 b=>?_⟩;have I:=b.hi;have O:=b.lo;have G:=b.dp;have N:=b.kn;refine⟨(cN rfl),λq1 e1=>?_⟩;exact q _ _ _ _ (made ((v.x.trans B).trans b.sx) b.g e1 (rs (ir hyl) (rs b.r r0)) (hwy b.wf) (by apply KM.d0;with_reducible repeat' first|apply KM.md|apply KM.ny|apply KM.q0|apply KM.q4|apply KM.q3|apply KM.q2|apply KM.q1|lia) (by simp only[aC,aL];lia) (by lia) (by lia))
 refine⟨_,rfl,_,rfl,_,rfl,_,_,rfl,rfl,_,rfl,_,_,rfl,rfl,_,rfl,a,p,c,ns,i,deep-2,near+1,rfl,g,(by lia),(by lia),(by lia),(by lia),(by lia),(by lia),λF R C i1 b=>?_⟩;have I:=b.hi;have O:=b.lo;have G:=b.dp;have N:=b.kn;refine⟨_,rfl,_,rfl,_,rfl,_,_,rfl,rfl,_,rfl,_,rfl,a,p,c,ns,i1,deep-1,near,rfl,b.g,(by lia),(by lia),(by lia),(by lia),(by lia),(by lia),λdB vB H2 i2 e=>?_⟩;have hB:=e.hi;have lB:=e.lo;have dpB:=e.dp;have knB:=e.kn;refine⟨_,rfl,rfl,_,rfl,aY (λ_=>?_) (λ_=>?_)⟩;·refine⟨_,rfl,_,rfl,_,rfl,_,rfl,_,rfl,_,rfl,_,rfl,a,p,c,ns,i2,deep,near,rfl,e.g,(by lia),d0,m,(by lia),o,r,λdC vC H3 L j=>?_⟩;have hC:=j.hi;have lC:=j.lo;have dpC:=j.dp;have knC:=j.kn;refine⟨(cN rfl),λq1 e1=>?_⟩;exact q _ _ _ _ (made (b.sx.trans (e.sx.trans j.sx)) j.g e1 (rs ir (rs (b.later (e.sx.trans j.sx)) (rs (e.later j.sx) (rs j.r r0)))) (EG b.wf e.wf j.wf) (by apply KM.d0;with_reducible repeat' first|apply KM.md|apply KM.ny|apply KM.q0|apply KM.q4|apply KM.q3|apply KM.q2|apply KM.q1|lia) (by simp only[aC,aL];lia) (by lia) (by lia))
 refine⟨_,rfl,_,rfl,_,rfl,_,_,rfl,rfl,_,rfl,_,rfl,a,p,c,ns,i2,deep-1,near,rfl,e.g,(by lia),(by lia),(by lia),(by lia),(by lia),(by lia),λdC vC H3 L j=>?_⟩;have hC:=j.hi;have lC:=j.lo;have dpC:=j.dp;have knC:=j.kn;refine⟨_,rfl,_,rfl,_,rfl,_,rfl,_,rfl,_,rfl,_,rfl,_,rfl,a,p,c,ns,L,deep,near,rfl,j.g,(by lia),d0,m,(by lia),o,r,λdE vE H4 i4 k=>?_⟩;have hE:=k.hi;have lE:=k.lo;have dpE:=k.dp;have knE:=k.kn;refine⟨(cN rfl),λq1 e1=>?_⟩;exact q _ _ _ _ (made (b.sx.trans (e.sx.trans (j.sx.trans k.sx))) k.g e1 (rs ir (rs (b.later (e.sx.trans (j.sx.trans k.sx))) (rs (e.later (j.sx.trans k.sx)) (rs (j.later k.sx) (rs k.r r0))))) (xm b.wf e.wf j.wf k.wf) (by apply KM.d0;with_reducible repeat' first|apply KM.md|apply KM.ny|apply KM.q0|apply KM.q4|apply KM.q3|apply KM.q2|apply KM.q1|lia) (by simp only[aC,aL];lia) (by lia) (by lia))
theorem gf:aT ["_law_script","_law_tape","_law_deep","_law_near","_law_pool_here","_law_way","_law_one","_law_two","_law_three"] MQ (ar fW):=⟨rfl,rfl,rfl,by decide+kernel,rfl,by decide+kernel,by decide+kernel⟩
theorem Eu{n:Nat}(D:Df K mg "_law_still" fW MQ)(M:Mg mg t)(U:bp P w K mg bE "_law_draw" (1) C4 (eJ K))(I:bp P w K mg bE "_law_kind" (3*n+132) eN (d9 K true n))(m:bp P w K mg bE "_law_term" (3*n+132) eN (d9 K false n))(W:bp P w K mg bE "_law_fun" (3*n+133) eN (ke K n (2*n+3) (1+6*p5 n) (2*cst n)))(Y:bp P w K mg bE "_law_pair" (3*n+133) eN (ke K n (2*n+3) (1+9*p5 n) (3*cst n)))(X:bp P w K mg bE "_law_like" (3*n+133) eN (ke K n (2*n+3) (1+6*p5 n) (2*cst n))):bp P w K mg bE "_law_still" (3*n+134) MQ (JI K n (2*n+4) (1+12*p5 n) (1+4*cst n)):=by
 refine D.ok gf (λvs H Q E h=>?_) (λbase f cS A outer s H vs Q E k h=>?_);·obtain⟨a,p,c,ns,i,deep,near,way,rfl,_⟩:=h;rfl
 obtain⟨a,p,c,ns,i,deep,near,way,rfl,g,hi,d0,J,hn,L,N,q⟩:=h;have i0:=g.T.i0;have XZ:=jc n;have p1:=mi n;refine⟨_,(ai (ba (aI jK (pv 5) ah (aQ _)) (aj (ay (av (ae ao (ae (aJ m k.m rfl aK (ae (pv 0) (ae (pv 1) (ae (aS bG (pv 2) ah) (ae (pv 3) (ae (pv 4) ag)))))) ag))))) aO) (ai (ba (aI bR (pv 5) ah (aQ _)) (aj (ay (aJ W k.m rfl aK (ae (pv 0) (ae (pv 1) (ae (pv 2) (ae (pv 3) (ae (pv 4) ag)))))))) aO) (ai (ba (aI bR (pv 5) ah (aQ _)) (aj (ay (aJ Y k.m rfl aK (ae (pv 0) (ae (pv 1) (ae (pv 2) (ae (pv 3) (ae (pv 4) ag)))))))) aO) (ai (ba (aI bR (pv 5) ah (aQ _)) (aj (ay (aJ X k.m rfl aK (ae (pv 0) (ae (pv 1) (ae (pv 2) (ae (pv 3) (ae (pv 4) ag)))))))) aO) (ai (aF (i:=6) gf.nd rfl (bY rfl) (aJ m k.m rfl aK (ae (pv 0) (ae (pv 1) (ae (aS bG (pv 2) ah) (ae (pv 3) (ae (pv 4) ag))))))) (ai (ba (aI bR (pv 5) ah (aQ _)) (aj (ay (av (ae ao (ae (aJ I k.m rfl aK (ae (pv 0) (ae (pv 1) (ae (aS bG (pv 2) ah) (ae (pv 3) (ae (pv 4) ag)))))) (ae (pv 6) ag)))))) aO) (ai (ba (aI bR (pv 5) ah (aQ _)) (aj (ay (av (ae (aP bQ (cq (ae ao (ae ao ag))) (aJ U k.m rfl aK (ae (pv 0) (ae (pv 1) (ae ah ag)))) (λ_ _=>rfl)) (ae (pv 6) ag))))) aO) (ai (aF (i:=7) gf.nd rfl (bY rfl) (aJ m k.m rfl aK (ae (pv 0) (ae (pv 1) (ae (aS bG (pv 2) ah) (ae (pv 3) (ae (pv 4) ag))))))) (ai (ba (aI bR (pv 5) ah (aQ _)) (aj (ay (av (ae ao (ae (pv 6) (ae (pv 7) ag)))))) aO) (ai (ba (aI bR (pv 5) ah (aQ _)) (aj (ay (av (ae ao (ae (aJ I k.m rfl aK (ae (pv 0) (ae (pv 1) (ae (aS bG (pv 2) ah) (ae (aS cE (pv 3) ah) (ae (pv 4) ag)))))) (ae (pv 6) (ae (pv 7) ag))))))) aO) (ai (aF (i:=8) gf.nd rfl (bY rfl) (aJ m k.m rfl aK (ae (pv 0) (ae (pv 1) (ae (aS bG (pv 2) ah) (ae (pv 3) (ae (pv 4) ag))))))) (aj (ay (av (ae ao (ae (aJ I k.m rfl aK (ae (pv 0) (ae (pv 1) (ae (aS bG (pv 2) ah) (ae (aS cE (pv 3) ah) (ae (pv 4) ag)))))) (ae (pv 6) (ae (pv 7) (ae (pv 8) ag))))))))))))))))))),?_⟩;try dsimp only[gu,cH]
 refine abp ?_;intro _ _ _ _ _ _ _ _ _ _ _ _;refine⟨_,rfl,_,_,rfl,rfl,_,rfl,aY (λ_=>?_) (λ_=>?_)⟩;·refine⟨_,rfl,_,rfl,_,rfl,_,_,rfl,rfl,_,rfl,_,rfl,a,p,c,ns,i,deep-1,near,rfl,g,(by lia),(by lia),(by lia),(by lia),(by lia),(by lia),λr F o i1 b=>?_⟩;have v:=b.hi;have B:=b.lo;have u:=b.dp;have x:=b.kn;refine⟨(cN rfl),λq1 e1=>?_⟩;exact q _ _ _ _ (made (b.sx) b.g e1 (rs ir (rs b.r r0)) (kH b.wf) (by apply KM.d0;with_reducible repeat' first|apply KM.md|apply KM.ny|apply KM.q0|apply KM.q4|apply KM.q3|apply KM.q2|apply KM.q1|lia) (by simp only[aC,aL];lia) (by lia) (by lia))
 refine⟨_,rfl,rfl,_,rfl,aY (λ_=>?_) (λ_=>?_)⟩;·refine⟨_,rfl,_,rfl,_,rfl,_,rfl,_,rfl,a,p,c,ns,i,deep,near,rfl,g,(by lia),d0,J,(by lia),L,N,λr F o i1 b=>?_⟩;have v:=b.hi;have B:=b.lo;have u:=b.dp;have x:=b.kn;exact q _ _ _ _ (b.weak (by lia) (by lia) (by lia))
 refine⟨_,rfl,rfl,_,rfl,aY (λ_=>?_) (λ_=>?_)⟩;·refine⟨_,rfl,_,rfl,_,rfl,_,rfl,_,rfl,a,p,c,ns,i,deep,near,rfl,g,(by lia),d0,J,(by lia),L,N,λr F o i1 b=>?_⟩;have v:=b.hi;have B:=b.lo;have u:=b.dp;have x:=b.kn;exact q _ _ _ _ (b.weak (by lia) (by lia) (by lia))
 refine⟨_,rfl,rfl,_,rfl,aY (λ_=>?_) (λ_=>?_)⟩;·refine⟨_,rfl,_,rfl,_,rfl,_,rfl,_,rfl,a,p,c,ns,i,deep,near,rfl,g,(by lia),d0,J,(by lia),L,N,λr F o i1 b=>?_⟩;have v:=b.hi;have B:=b.lo;have u:=b.dp;have x:=b.kn;exact q _ _ _ _ (b.weak (by lia) (by lia) (by lia))
 refine⟨_,rfl,_,rfl,_,rfl,_,_,rfl,rfl,_,rfl,_,rfl,a,p,c,ns,i,deep-1,near,rfl,g,(by lia),(by lia),(by lia),(by lia),(by lia),(by lia),λr F o i1 b=>?_⟩;have v:=b.hi;have B:=b.lo;have u:=b.dp;have x:=b.kn;refine⟨_,rfl,rfl,_,rfl,aY (λ_=>?_) (λ_=>?_)⟩;·refine⟨_,rfl,_,rfl,_,rfl,_,_,rfl,rfl,_,rfl,_,rfl,a,p,c,ns,i1,deep-2,near,rfl,b.g,(by lia),(by lia),(by lia),(by lia),(by lia),(by lia),λdB vB Z i2 e=>?_⟩;have hB:=e.hi;have lB:=e.lo;have dpB:=e.dp;have knB:=e.kn;refine⟨_,rfl,(cN rfl),λq1 e1=>?_⟩;exact q _ _ _ _ (made (b.sx.trans e.sx) e.g e1 (rs ir (rs e.r (rs (b.later e.sx) r0))) (N4 e.wf b.wf) (by apply KM.d0;with_reducible repeat' first|apply KM.md|apply KM.ny|apply KM.q0|apply KM.q4|apply KM.q3|apply KM.q2|apply KM.q1|lia) (by simp only[aC,aL];lia) (by lia) (by lia))
 refine⟨_,rfl,rfl,_,rfl,aY (λ_=>?_) (λ_=>?_)⟩
 ·refine⟨(cN rfl),λq0 e0=>?_⟩;have C:=aq e0 (.lst [V.str "first", .str "second"]);refine⟨_,rfl,_,rfl,a,p,ns,i1,2,rfl,(b.g.mono C).T,(by lia),(by decide),λO H9 w0 w1 G h9=>?_⟩;have g9:=(b.g.mono C).next G h9 (by lia);obtain⟨y,hy,R⟩:∃y:Str,lP [V.str "first", .str "second"] O=some (.str y)/\(y="first"\/y="second"):=by
   have :O=0\/O=1:=by lia
   rcases this with rfl|rfl;·exact⟨_,rfl, .inl rfl⟩
   ·exact⟨_,rfl, .inr rfl⟩
  have xP:q0≠p:=λz=>by subst z;rw[b.g.T.gh]at e0;cases e0
  have hq0:=G _ _ xP (show(upd _ q0 (.lst [V.str "first", .str "second"])) q0=some _ from ak);have hyl:y.length<=1000:=by rcases R with rfl|rfl<;>decide
  have hwy:∀{d:KM.D},bu aw false d=true->bu aw false (.tup [.str y,d])=true:=λh=>by
   rcases R with rfl|rfl;·exact yr h
   ·exact pE h
  refine⟨q0,_,_,_,rfl,rfl,bH.of hq0,hy,_,rfl,?_⟩;refine⟨(cN rfl),λq1 e1=>?_⟩;exact q _ _ _ _ (made (b.sx.trans (C.x.trans G)) g9 e1 (rs (ir hyl) (rs (b.later (C.x.trans G)) r0)) (hwy b.wf) (by apply KM.d0;with_reducible repeat' first|apply KM.md|apply KM.ny|apply KM.q0|apply KM.q4|apply KM.q3|apply KM.q2|apply KM.q1|lia) (by simp only[aC,aL];lia) (by lia) (by lia))
 refine⟨_,rfl,_,rfl,_,rfl,_,_,rfl,rfl,_,rfl,_,rfl,a,p,c,ns,i1,deep-1,near,rfl,b.g,(by lia),(by lia),(by lia),(by lia),(by lia),(by lia),λdB vB Z i2 e=>?_⟩;have hB:=e.hi;have lB:=e.lo;have dpB:=e.dp;have knB:=e.kn;refine⟨_,rfl,rfl,_,rfl,aY (λ_=>?_) (λ_=>?_)⟩;·refine⟨_,rfl,_,rfl,(cN rfl),λq1 e1=>?_⟩;exact q _ _ _ _ (made (b.sx.trans e.sx) e.g e1 (rs ir (rs (b.later e.sx) (rs e.r r0))) (oO b.wf e.wf) (by apply KM.d0;with_reducible repeat' first|apply KM.md|apply KM.ny|apply KM.q0|apply KM.q4|apply KM.q3|apply KM.q2|apply KM.q1|lia) (by simp only[aC,aL];lia) (by lia) (by lia))
 refine⟨_,rfl,rfl,_,rfl,aY (λ_=>?_) (λ_=>?_)⟩;·refine⟨_,rfl,_,rfl,_,rfl,_,_,rfl,rfl,_,rfl,_,_,rfl,rfl,_,rfl,a,p,c,ns,i2,deep-2,near+1,rfl,e.g,(by lia),(by lia),(by lia),(by lia),(by lia),(by lia),λdC vC H3 S j=>?_⟩;have hC:=j.hi;have lC:=j.lo;have dpC:=j.dp;have knC:=j.kn;refine⟨_,rfl,_,rfl,(cN rfl),λq1 e1=>?_⟩;exact q _ _ _ _ (made (b.sx.trans (e.sx.trans j.sx)) j.g e1 (rs ir (rs j.r (rs (b.later (e.sx.trans j.sx)) (rs (e.later j.sx) r0)))) (EG j.wf b.wf e.wf) (by apply KM.d0;with_reducible repeat' first|apply KM.md|apply KM.ny|apply KM.q0|apply KM.q4|apply KM.q3|apply KM.q2|apply KM.q1|lia) (by simp only[aC,aL];lia) (by lia) (by lia))
 refine⟨_,rfl,_,rfl,_,rfl,_,_,rfl,rfl,_,rfl,_,rfl,a,p,c,ns,i2,deep-1,near,rfl,e.g,(by lia),(by lia),(by lia),(by lia),(by lia),(by lia),λdC vC H3 S j=>?_⟩;have hC:=j.hi;have lC:=j.lo;have dpC:=j.dp;have knC:=j.kn;refine⟨_,rfl,_,rfl,_,rfl,_,_,rfl,rfl,_,rfl,_,_,rfl,rfl,_,rfl,a,p,c,ns,S,deep-2,near+1,rfl,j.g,(by lia),(by lia),(by lia),(by lia),(by lia),(by lia),λdE vE H4 i4 l=>?_⟩;have hE:=l.hi;have lE:=l.lo;have dpE:=l.dp;have knE:=l.kn;refine⟨_,rfl,_,rfl,_,rfl,(cN rfl),λq1 e1=>?_⟩;exact q _ _ _ _ (made (b.sx.trans (e.sx.trans (j.sx.trans l.sx))) l.g e1 (rs ir (rs l.r (rs (b.later (e.sx.trans (j.sx.trans l.sx))) (rs (e.later (j.sx.trans l.sx)) (rs (j.later l.sx) r0))))) (xm l.wf b.wf e.wf j.wf) (by apply KM.d0;with_reducible repeat' first|apply KM.md|apply KM.ny|apply KM.q0|apply KM.q4|apply KM.q3|apply KM.q2|apply KM.q1|lia) (by simp only[aC,aL];lia) (by lia) (by lia))
theorem qI:aT MQ eN (ar gO):=⟨rfl,rfl,rfl,by decide+kernel,rfl,by decide+kernel,by decide+kernel⟩
theorem DA{n:Nat}(D:Df K mg "_law_term" gO eN)(M:Mg mg t)(r:bp P w K mg bE "_law_draw" (1) C4 (eJ K))(u:bp P w K mg bE "_law_leaf" (131) ["_law_script","_law_tape","_law_near","_law_pool_here"] (Hs K))(x:bp P w K mg bE "_law_parted" (3*n+134) MQ (JI K n (2*n+4) (2+12*p5 n) (2+5*cst n)))(y:bp P w K mg bE "_law_still" (3*n+134) MQ (JI K n (2*n+4) (1+12*p5 n) (1+4*cst n))):bp P w K mg bE "_law_term" (3*n+135) eN (d9 K false (n+1)):=by
 refine D.ok qI (λvs H Q E h=>?_) (λbase f cS A outer s H vs Q E k h=>?_);·obtain⟨a,p,c,ns,i,deep,near,rfl,_⟩:=h;rfl
 obtain⟨a,p,c,ns,i,deep,near,rfl,g,hi,d0,J,hn,l,L,q⟩:=h;have i0:=g.T.i0;have e:=xp n;have G:=jc n;have C:=BM n;have N:=mi n;rw[e]at hi q;rw[C]at q;refine⟨_,(ai (aF (i:=5) qI.nd rfl (bY rfl) (aJ r k.m rfl aK (ae (pv 0) (ae (pv 1) (ae ah ag))))) (ai (ba (L2.PW.pt (kW (aI jK (pv 2) ah (aQ _)) (j1 (aI jK (pv 5) ah (aQ _))))) (aj (ay (aJ u k.m rfl aK (ae (pv 0) (ae (pv 1) (ae (pv 3) (ae (pv 4) ag))))))) aO) (ai (ba (aI jK (pv 5) ah (aQ _)) (aj (ay (aJ x k.m rfl aK (ae (pv 0) (ae (pv 1) (ae (pv 2) (ae (pv 3) (ae (pv 4) (ae (aS bG (pv 5) ah) ag))))))))) aO) (aj (ay (aJ y k.m rfl aK (ae (pv 0) (ae (pv 1) (ae (pv 2) (ae (pv 3) (ae (pv 4) (ae (aS bG (pv 5) ah) ag)))))))))))),?_⟩;try dsimp only[gu,I]
 refine A9 ?_;intro _ _ _ _;refine⟨_,rfl,_,rfl,a,p,ns,i,17,rfl,g.T,(by lia),(by decide),λm F w0 w1 b h1=>?_⟩;have j:=g.next b h1 (by lia);refine⟨_,rfl,_,_,rfl,rfl,_,rfl,?_⟩;refine aY (λcd=>?_) (λcd=>?_);·exact qR ⟨_,rfl,_,rfl,_,rfl,_,rfl,a,p,c,ns,i+1,near,rfl,j,(by lia),l,(by lia),λd v H' i' o=>q _ _ _ _ ((o.after (co1:=1) b (by lia) (by lia)).weak (by lia) (by lia) (by lia))⟩
 refine⟨_,rfl,_,_,rfl,rfl,_,rfl,?_⟩;refine aY (λz=>?_) (λz=>?_);·exact⟨_,rfl,_,rfl,_,rfl,_,rfl,a,p,c,ns,i+1,near,rfl,j,(by lia),l,(by lia),λd v H' i' o=>q _ _ _ _ ((o.after (co1:=1) b (by lia) (by lia)).weak (by lia) (by lia) (by lia))⟩
 have cd:¬deep<1:=of_decide_eq_false (Bool.eq_false_iff.mpr cd);refine⟨_,rfl,_,_,rfl,rfl,_,rfl,?_⟩;refine aY (λB=>?_) (λB=>?_);·exact⟨_,rfl,_,rfl,_,rfl,_,rfl,_,rfl,_,rfl,_,_,rfl,rfl,a,p,c,ns,i+1,deep,near,m-3,rfl,j,(by lia),(by lia),(by lia),(by lia),l,(by lia),λd v H' i' o=>q _ _ _ _ ((o.after (co1:=1) b (by lia) (by lia)).weak (by lia) (by lia) (by lia))⟩
 ·exact⟨_,rfl,_,rfl,_,rfl,_,rfl,_,rfl,_,rfl,_,_,rfl,rfl,a,p,c,ns,i+1,deep,near,m-7,rfl,j,(by lia),(by lia),(by lia),(by lia),l,(by lia),λd v H' i' o=>q _ _ _ _ ((o.after (co1:=1) b (by lia) (by lia)).weak (by lia) (by lia) (by lia))⟩
theorem Vr(e:Df K mg "_law_kind" gG eN)(f:Df K mg "_law_term" gO eN)(g:Df K mg "_law_fun" iS eN)(k:Df K mg "_law_pair" gS eN)(h:Df K mg "_law_like" gA eN)(j:Df K mg "_law_number" eV eN)(Da:Df K mg "_law_parted" eY MQ)(l:Df K mg "_law_still" fW MQ)(M:Mg mg t)(b:bp P w K mg bE "_law_draw" (1) C4 (eJ K))(m:bp P w K mg bE "_law_leaf" (131) ["_law_script","_law_tape","_law_near","_law_pool_here"] (Hs K)):∀n:Nat,(bp P w K mg bE "_law_kind" (3*n+132) eN (d9 K true n))/\(bp P w K mg bE "_law_term" (3*n+132) eN (d9 K false n))|0=>⟨bp.never e λvs H Q E⟨a,p,c,ns,i,deep,near,_,_,_,h1,h2,_⟩=>by lia,bp.never f λvs H Q E⟨a,p,c,ns,i,deep,near,_,_,_,h1,h2,_⟩=>by lia⟩|n+1=>by obtain⟨d,ht⟩:=Vr e f g k h j Da l M b m n;have f1:=Mj g M d ht;have f2:=Gd k M d ht;have o:=Gz h M d ht;have q:=BC j M b ht;have r:=Ci Da M b d ht f1 f2 o q;have s:=Eu l M b d ht f1 f2 o;exact⟨(DR e M b d ht).mono (by lia),(DA f M b m r s).mono (by lia)⟩
end K23
end
section
namespace K23
open PySem L2 L3 KM
seal L2.PE L2.PS L2.iz L2.PT L2.PW L2.PA L2.PG L2.AR L2.PI L2.PC L2.PO L2.An L2.PK L3.AV
variable{P:Program}{w:World}{K:PySem.W.Frag}{mg:Str->Option Value}{base:Heap}{t:wY}
theorem sizeLine_eq:sizeLine=16777216:=by decide
def okH(d:D):Prop:=d= .aW\/d= .tup []\/∃x,d= .str x
mutual noncomputable def Ry:D->Prop| .tup []=>True| .tup (h::ps)=>okH h/\okL ps/\ps.length<=20|_=>True noncomputable def okL:List D->Prop|[]=>True|p::ps=>Ry p/\okL ps end
mutual theorem N6:∀{k:Bool}{d:D},bu aw k d=true->Ry d
 |k, .tup (.str x::ps),h=>by
  obtain⟨s,e1,e2,e3,e4,e5,_⟩:=bM h;refine⟨.inr (.inr ⟨x,rfl⟩),Qq e3,?_⟩;have :s.cps.toList.length=s.cps.size:=by simp
  lia
 |k, .tup [],h=>by simp[bu]at h
 |k, .tup (.aW::_),h=>by simp[bu]at h
 |k, .tup (.bl _::_),h=>by simp[bu]at h
 |k, .tup (.int _::_),h=>by simp[bu]at h
 |k, .tup (.tup _::_),h=>by simp[bu]at h
 |k, .aW,h=>by simp[bu]at h
 |k, .bl _,h=>by simp[bu]at h
 |k, .int _,h=>by simp[bu]at h
 |k, .str _,h=>by simp[bu]at h theorem Qq:∀{cs:List Nat}{ps:List D},dZ aw cs ps=true->okL ps
 |[],[],_=>trivial
 |[],_::_,h=>by simp[dZ]at h
 |_::_,[],h=>by simp[dZ]at h
 |c::cs,p::ps,h=>by
  rw[aN,cY]at h;refine⟨?_,Qq h.2⟩;have h:=h.1;unfold dg at h;by_cases c1:c=107;·rw[if_pos c1]at h;exact N6 h
  ·rw[if_neg c1]at h;by_cases c2:c=116;·rw[if_pos c2]at h;exact N6 h
   ·rw[if_neg c2]at h;cases p<;>first|trivial|(simp[iB,aw]at h;done)end
theorem QP:∀{ds:List D},Ry (.tup ds)->ds.length<=21|[],_=>by simp|_::ps,h=>by have :=h.2.2;simp;lia
theorem K7:∀{ps:List D}{p:D},okL ps->p∈ps->Ry p
 |[],_,_,e=>by simp at e
 |q::ps,p,h,e=>by
  rcases List.mem_cons.mp e with rfl|e;·exact h.1
  ·exact K7 h.2 e
theorem acy:∀{d:D},Ry d->∀x∈tk d,Ry x
 | .tup [],_,x,a=>by simp[tk]at a
 | .tup (h::ps),ok,x,a=>by
  have hm:x∈h::ps:=(List.mem_filter.mp a).1;rcases List.mem_cons.mp hm with rfl|hm;·rcases ok.1 with rfl|rfl|⟨y,rfl⟩<;>simp[Ry]
  ·exact K7 ok.2.1 hm
 | .aW,_,x,a=>by simp[tk]at a
 | .bl _,_,x,a=>by simp[tk]at a
 | .int _,_,x,a=>by simp[tk]at a
 | .str _,_,x,a=>by simp[tk]at a
theorem NT:∀(n:Nat)(l:List D),(∀x∈l,Ry x)->∀x∈lv n l,Ry x|0,_,h=>h|n+1,l,h=>NT n _ λx a=>by obtain⟨d,hd,a⟩:=List.mem_flatMap.mp a;exact acy (h d hd) x a
noncomputable def dw(d:D):Bool:=!(decide (aC d<=600)&&decide (depth d<=40))
def P6:Sp:=λvs H Q _=>∃ds v,vs=[v]/\Rep H (.tup ds) v/\Ry (.tup ds)/\0<=aC (.tup ds)/\∀H',aM H H'->Q (.bl (dw (.tup ds))) H'
noncomputable def j8(ds:List D)(vs:List V)(j:Nat):Option V:=if isTup ((ds[j]?).getD .aW)then vs[j]? else none
theorem Ax{H:Hp}:∀{ds:List D}{vs:List V},bz H ds vs->bz H (ds.filter isTup) ((List.range vs.length).filterMap (j8 ds vs))
 |[],_,r=>by have r:_=[]:=r;subst r;exact rfl
 |d::ds,_,⟨v,a,e,q,t⟩=>by
  subst e;have b:=Ax t;rw[cF,List.range_succ_eq_map,CC,List.filterMap_map];have e:(j8 (d::ds) (v::a)∘Nat.succ)=j8 ds a:=by funext j;simp[j8]
  rw[e];by_cases hd:isTup d=true
  ·rw[List.filter_cons_of_pos hd];have e0:j8 (d::ds) (v::a) 0=some v:=by simp[j8,hd]
   simp only[e0];exact⟨v,_,rfl,q,b⟩
  ·rw[List.filter_cons_of_neg hd];have e0:j8 (d::ds) (v::a) 0=none:=by simp[j8,hd]
   simp only[e0];exact b
theorem nX(ds:List D):∀x∈[D.tup ds],isTup x=true:=λx a=>by rw[List.mem_singleton.mp a];rfl
theorem o_(ds:List D):aL [D.tup ds]=aC (.tup ds):=by simp[aL]
theorem MK(ds:List D):aD [D.tup ds]=depth (.tup ds):=by simp[aD]
theorem Xx(i:Nat)(ds:List D):(lv i [D.tup ds]).length<=aC (.tup ds):=by have h:=xZ (i+1) [D.tup ds] (nX ds);rw[o_]at h;simp only[gR]at h;lia
theorem zF(l:List D)(j:Nat):((l.take j).flatMap tk).length<=(l.flatMap tk).length:=by
 have e:l.flatMap tk=(l.take j).flatMap tk++(l.drop j).flatMap tk:=by rw[<-List.flatMap_append,List.take_append_drop]
 rw[e,iJ];lia
theorem C_{L:Nat}:∀(l:List D),(∀d∈l,(tk d).length<=L)->(l.flatMap tk).length<=l.length*L|[],_=>by simp|d::l,h=>by rw[List.flatMap_cons,iJ,cF,Nat.add_mul,Nat.one_mul];have :=C_ l λx a=>h x (dW _ a);have :=h d d4;lia
theorem ZM{d:D}(h:Ry d):(tk d).length<=21:=by cases d with|tup es=>exact c8 (List.length_filter_le _ _) (QP h)|_=>simp[tk]
theorem NM{ds:List D}{i:Nat}(h:600<gR i [D.tup ds]):dw (.tup ds)=true:=by have :=xZ i [D.tup ds] (nX ds);rw[o_]at this;unfold dw;rw[decide_eq_false (by lia)];rfl
theorem QE{ds:List D}(h:gR 40 [D.tup ds]<=600):dw (.tup ds)=decide (0<(lv 40 [D.tup ds]).length):=by
 have e:=Mw [D.tup ds] (nX ds);rw[o_,MK]at e;unfold dw;by_cases c:lv 40 [D.tup ds]=[];·obtain⟨a,b⟩:=e.mp ⟨h,c⟩;rw[decide_eq_true a,decide_eq_true b,c];rfl
 ·have :¬(aC (.tup ds)<=600/\depth (.tup ds)<=40):=λz=>c (e.mpr z).2;have hl:0<(lv 40 [D.tup ds]).length:=List.length_pos_iff.mpr c;rw[decide_eq_true hl];by_cases a:aC (.tup ds)<=600;·rw[decide_eq_false λb=>this ⟨a,b⟩,Bool.and_false];rfl
  ·rw[decide_eq_false a];rfl
theorem dP:aT ["value","level","knots","depth","below","knot"] ["value"] (ar iK):=⟨rfl,rfl,rfl,by decide+kernel,rfl,by decide+kernel,by decide+kernel⟩
theorem MC(D:Df K mg "is_vast" iK ["value"])(M:Mg mg t):bp P w K mg bE "is_vast" (1) ["value"] P6:=by
 refine D.ok dP (λvs H Q E h=>?_) (λbase f cS A outer s H vs Q E hr h=>?_);·obtain⟨d,v,rfl,_⟩:=h;rfl
 obtain⟨ds,v,rfl,r,ok,hk,q⟩:=h;refine⟨_,(ai (aF (i:=1) dP.nd rfl (bY rfl) (cq (ae (pv 0) ag))) (ai (aF (i:=2) dP.nd rfl (bY rfl) ah) (ai (fz PassesOwn.never rfl (dR rfl M.f9 (ae (CO M.g_MOST_DEEP rfl) ag)) (bL (i:=3) dP.nd rfl (bY rfl)) (ai (aaa (i:=2) dP.nd rfl (bY rfl) (bj bC rfl M.gQ eG (ae (pv 1) ag)) XH) (ai (ba (aI ng (pv 2) (CO M.g_MOST_KNOTS rfl) (aQ _)) (aj (ay AQ)) aO) (ai (aF (i:=4) dP.nd rfl (bY rfl) (cq ag)) (ai (fz PassesOwn.never rfl (kC (pv 1)) (bL (i:=5) dP.nd rfl (bY rfl)) (aj (i7 (lx PySem.F.plainAttrs_list PySem.F.slot_list_extend PySem.F.type_list_extend MZ (pv 4) (ae (oh (N':=["part"]) (own:=1) (fr:=[]) rfl (lF (N:=["value","level","knots","depth","below","knot"]) (sc:=ar iK) rfl rfl rfl (by decide+kernel)) (GK (pv 5)) (iC (by decide)) (λ_ _ _=>(bL (i:=0) (show List.Nodup (["part"]:List Str)by decide+kernel) rfl (Or.inl rfl))) (λ_ _ _=>(IL (gL (bj (A3 (K:=K)) rfl M.bZ bP (ae (pv 0) (ae (z_ M.Bn yX rfl) ag)))))) (λ_ _ _=>(pv 0))) ag))))) (aj (aF (i:=1) dP.nd rfl (bY rfl) (pv 4)))))))) (aj (ay (gd ng (bj bC rfl M.gQ eG (ae (pv 1) ag)) ah (aQ _))))))),?_⟩;try dsimp only[gu,cH]
 refine A9 ?_;intro _ _ _ _;refine⟨_,rfl,(cN rfl),λq1 qr=>?_⟩;have e1:(upd H q1 (.lst [v])) q1=some (.lst [v]):=ak;have s1:aM H (upd H q1 (.lst [v])):=aq qr _;refine⟨40,rfl,by decide,by decide,Mh (n:=40) (λi B H'=>∃(q:Addr)(us:List V)(k3 I g:Option V),B=[some v,some (.ref q),some (.int (gR i [KM.D.tup ds])),k3,I,g]/\H' q=some (.lst us)/\bz H' (lv i [KM.D.tup ds]) us/\gR i [KM.D.tup ds]<=600/\aM H H') ?_ ?_ ?_⟩;·exact⟨q1,[v],none,none,none,rfl,e1,bz.one (r.mono s1),by simp[gR],s1⟩
 ·rintro i B l hi⟨q2,us,k3,I,g,rfl,F,J,hup,s2⟩;have lus:=J.length;have lvl:=Xx i ds;refine⟨_,rfl,_,rfl,q2,us,rfl, .inl (bH.of F),_,_,rfl,rfl,?_⟩;have eu:((gR i [KM.D.tup ds]:Nat):Int)+((us.length:Nat):Int)=((gR (i+1) [KM.D.tup ds]:Nat):Int):=by simp only[gR];lia
  show bA _ _ _ [some v,some (.ref q2),some (.int (((gR i [KM.D.tup ds]:Nat):Int)+((us.length:Nat):Int))),some (.int (0+(i:Int))),I,g] l;rw[eu];refine⟨_,rfl,_,_,rfl,rfl,_,rfl,?_⟩;refine aY (λc=>?_) (λc=>?_);·have c:(600:Int)<((gR (i+1) [KM.D.tup ds]:Nat):Int):=of_decide_eq_true c;have e:=NM (ds:=ds) (i:=i+1) (by lia);rw[e]at q;exact q l s2
  have c:¬(600:Int)<((gR (i+1) [KM.D.tup ds]:Nat):Int):=of_decide_eq_false (Bool.eq_false_iff.mpr c);refine⟨by show 0<=sizeLine;decide,λq4 Y=>?_⟩;have e4:(upd l q4 (.lst [])) q4=some (.lst []):=ak;have s4:aM l (upd l q4 (.lst [])):=aq Y _;refine⟨_,rfl,q2,rfl,⟨us,bH.of (s4 _ _ F)⟩,Qi (xs:=us) (λj B H'=>∃(bs:List V)(g:Option V),B=[some v,some (.ref q2),some (.int (gR (i+1) [KM.D.tup ds])),some (.int (0+(i:Int))),some (.ref q4),g]/\H' q4=some (.lst bs)/\bz H' (((lv i [KM.D.tup ds]).take j).flatMap tk) bs/\aM l H') ?_ ?_ ?_ ?_⟩;·exact⟨[],g,rfl,e4,by simp[bz],s4⟩
  ·rintro j B H' _⟨bs,g,rfl,h4,C,s'⟩;exact bH.of (s' _ _ F)
  ·rintro j u B H5 hu⟨bs,g,rfl,h4,C,L⟩;obtain⟨d,hd,rd⟩:=J.get' hu;have htd:=Kn i [KM.D.tup ds] (nX ds) d (zK hd);obtain⟨es,rfl⟩:∃es,d= .tup es:=by cases d<;>first|exact⟨_,rfl⟩|cases htd
   obtain⟨a,ws,rfl,ha,S⟩:=rd.mono L;have hsz:ws.length<=sizeLine:=by have h1:=S.length;have h2:=QP (NT i [KM.D.tup ds] (λx m=>by rw[List.mem_singleton.mp m];exact ok) _ (zK hd));rw[sizeLine_eq];lia
   refine⟨_,rfl, .inl ⟨rfl,_,bH.of h4⟩,_,rfl,a,rfl,⟨ws,bS.of ha⟩,λp hp=>Rj ws.length (j8 es ws) hp hsz (λk O hk6 y=>?_) λO y h6=>?_⟩
   ·obtain⟨wk,G⟩:∃x,ws[k]?=some x:=⟨_,gM hk6⟩;have Z:bS K O a ws:=bS.of (y _ _ ha);refine⟨⟨ws,wk,Z,G⟩,?_⟩;rintro x' T⟨rfl,hy⟩R R0 hR hR0;have m:=hy ws Z;rw[G]at m;cases m;obtain⟨dk,W,rk⟩:=S.get' G;refine⟨_,rfl,_,_,_,_,rfl,(Rep.mono y rk).ty,Ub _ dk,_,rfl,?_⟩;refine aY (λc=>?_) (λc=>?_);·exact⟨_,rfl,hR wk T (by simp[j8,W,c,G]) (aM.refl _)⟩
    ·exact hR0 T (by simp[j8,W,c]) (aM.refl _)
   ·have lb:=C.length;have U:=y _ _ h4;have n4:q4≠p:=aX h4 hp;have hl:(lv i [KM.D.tup ds]).take (j+1)=(lv i [KM.D.tup ds]).take j++[KM.D.tup es]:=by rw[List.take_add_one,hd];rfl
    have X:((lv i [KM.D.tup ds]).take (j+1)).flatMap tk=((lv i [KM.D.tup ds]).take j).flatMap tk++es.filter isTup:=by rw[hl,List.flatMap_append];simp[tk]
    have rpk:=Ax (S.mono y);have lpk:=rpk.length;have lfl:=zF (lv i [KM.D.tup ds]) (j+1);rw[<-tY,X,iJ]at lfl;have lv1:(lv (i+1) [KM.D.tup ds]).length<=600*21:=by rw[tY];refine c8 (C_ _ λx m=>ZM (NT i [KM.D.tup ds] (λx m=>by rw[List.mem_singleton.mp m];exact ok) x m)) (Nat.mul_le_mul_right _ ?_);simp only[gR]at c;lia
    have np:∀vs,O q4≠some (.tup vs):=λvs z=>by rw[U]at z;cases z
    refine⟨⟨ws,bS.of (y _ _ ha),bK _⟩,q4,p,_,_,rfl,rfl,U,h6,?_,?_⟩;·rw[lb,lpk,sizeLine_eq];lia
    ·refine⟨_,_,rfl,ak,?_,λb o hb=>?_⟩;·rw[X];exact bz.gU (bx.upd _) np ((C.mono y).append rpk)
     ·rw[aZ (aX hb Y)];exact y _ _ (L _ _ hb)
  ·rintro B H5⟨bs,g,rfl,h4,C,L⟩;rw[List.take_of_length_le (by lia),<-tY]at C;refine⟨_,rfl,q4,bs,_,_,_,rfl,h4,C,by lia,s2.trans L⟩
 ·rintro B l⟨q2,us,k3,I,g,rfl,F,J,hup,s2⟩;refine⟨_,rfl,q2,us,rfl, .inl (bH.of F),_,_,rfl,rfl,?_⟩;have e:decide ((0:Int)<((us.length:Nat):Int))=dw (.tup ds):=by rw[QE hup,J.length];simp
  show Q (.bl (decide ((0:Int)<((us.length:Nat):Int)))) l;rw[e];exact q l s2
end K23
end
section
namespace K23
open PySem L2 L3 KM PyProof.Rows
seal L2.PE L2.PS L2.iz L2.PT L2.PW L2.PA L2.PG L2.AR L2.PI L2.PC L2.PO L2.An L2.PK L3.AV
variable{P:Program}{w:World}{K:PySem.W.Frag}{mg:Str->Option Value}{base:Heap}{t:wY}
theorem L8{k:Bool}{x:Str}{ps:List D}(h:bu aw k (.tup (.str x::ps))=true)(g:cZ x=true):∀(i:Nat)(p:D),ps[i]?=some p->isTup p=false/\(iB p=true\/aw p=true):=by
 obtain⟨s,h1,h2,h3,h4,h5,h6,l,_⟩:=bM h;have hc:∀(cs:List Nat)(a:List D)(i:Nat),dZ aw cs a=true->(∀c∈cs,ktB c=!cZ x)->∀p,a[i]?=some p->isTup p=false/\(iB p=true\/aw p=true):=λcs=>by
  induction cs with
   |nil=>intro a i hq _ p e;cases a with|nil=>simp at e|cons _ _=>simp[dZ]at hq
   |cons c cs j=>
    intro a i hq f p e;cases a with
     |nil=>simp[dZ]at hq
     |cons q a=>
      rw[aN,cY]at hq;cases i with
       |zero=>
        simp at e;subst e;have d:=f c d4;rw[g]at d;have b:=hq.1;unfold dg at b;rw[if_neg (λz=>by rw[z,kt1]at d;cases d),if_neg (λz=>by rw[z,kt2]at d;cases d)]at b;split at b;·exact⟨by cases q<;>simp[iB]at b<;>rfl, .inl b⟩
        ·exact⟨by cases q<;>simp[aw]at b<;>rfl, .inr b⟩
       |succ i=>exact j a i hq.2 (λc hc=>f c (dW _ hc)) p (by simpa using e)
 exactλi p e=>hc _ ps i h3 h6 p e
theorem Aj:∀(ps:List D),(∀(i:Nat)(p:D),ps[i]?=some p->isTup p=false)->aL ps=0/\aD ps=0
 |[],_=>⟨rfl,rfl⟩
 |p::ps,h=>by
  obtain⟨h1,h2⟩:=Aj ps λi q e=>h (i+1) q (by simpa using e);have a:=h 0 p rfl;have e1:aC p=0:=by cases p<;>first|rfl|simp[isTup]at a
  have e2:depth p=0:=by cases p<;>first|rfl|simp[isTup]at a
  simp[aL,aD,h1,h2,e1,e2]
theorem lD:∀ps:List D,aL ps=(ps.map aC).sum|[]=>rfl|p::ps=>by simp[aL,lD ps]
theorem l9:∀ps:List D,aD ps=jF (ps.map depth)|[]=>rfl|p::ps=>by rw[aD,l9 ps];rfl
theorem jm{k:Bool}{x:Str}{ps:List D}(h:bu aw k (.tup (.str x::ps))=true):aC (.tup (.str x::ps))=1+((az x ps).map aC).sum/\depth (.tup (.str x::ps))=1+jF ((az x ps).map depth):=by
 rw[<-lD,<-l9];have e1:aC (.tup (.str x::ps))=1+aL ps:=by simp[aC,aL]
 have e2:depth (.tup (.str x::ps))=1+aD ps:=by simp[depth,aD]
 rw[e1,e2];unfold az;by_cases a:cZ x=true;·obtain⟨b,c⟩:=Aj ps λi p e=>(L8 h a i p e).1;rw[if_pos a,b,c];exact⟨rfl,rfl⟩
 ·rw[if_neg a];exact⟨rfl,rfl⟩
structure Rz(d:D)(n:Nat):Prop where
 wf:Wf d
 dp:depth d<n
 kn:0<=aC d
theorem Rz.kid{n:Nat}{x:Str}{ps:List D}{i:Nat}{p:D}(h:Rz (.tup (.str x::ps)) (n+1))(e:(az x ps)[i]?=some p):Rz p n:=by obtain⟨k,wf⟩:=h.wf;obtain⟨w1,a⟩:=jo wf e;have hd:=h.dp;exact⟨w1,by lia,eB _⟩
structure Rs(d:D)(n:Nat):Prop where
 wf:Wf d
 dp:depth d<n
 kn:aC d<=8000000
mutual noncomputable def eI:D->Bool| .int i=>decide (99<i)| .tup ds=>gC ds|_=>false noncomputable def gC:List D->Bool|[]=>false|d::ds=>eI d||gC ds end
theorem SO{ds:List D}:∀{ns:List Int},ns.length=ds.length->(∀(i:Nat)(z:Int),ns[i]?=some z->decide (99<z)=eI ((ds[i]?).getD .aW))->gC ds=ns.any λz=>decide (99<z):=by
 induction ds with
  |nil=>intro ns h _;cases ns with|nil=>rfl|cons _ _=>simp at h
  |cons d ds b=>intro ns h a;cases ns with|nil=>simp at h|cons z ns=>rw[gC,List.any_cons,b (by simpa using h) (λi z e=>by simpa using a (i+1) z (by simpa using e)),a 0 z rfl];rfl
theorem any_max(b:Int):∀(ns:List Int)(d:Int),d<=b->decide (b<maxD ns d)=ns.any λz=>decide (b<z)|[],d,h=>by show decide (b<d)=false;exact decide_eq_false (by lia)|a::r,d,_=>by show decide (b<r.foldl mxI a)=_;rw[List.any_cons];induction r generalizing a with|nil=>exact(Bool.or_false _).symm|cons c r e=>rw[List.foldl_cons,e,List.any_cons,<-Bool.or_assoc];congr 1;unfold mxI;by_cases h1:b<a<;>by_cases h2:b<c<;>simp[h1,h2]<;>split<;>lia
theorem Ee{x:Str}{ps:List D}{k:Bool}(wf:bu aw k (.tup (.str x::ps))=true)(a:cZ x=true)(d:x≠"var"):∀(i:Nat)(p:D),ps[i]?=some p->eI p=false:=λi p e=>by
 have a:x="name":=by unfold cZ at a;simp[d]at a;exact a
 subst a;obtain⟨f,e1,_,e3,_,b,_⟩:=bM wf;rw[gH]at e1;cases e1;rw[JG]at e3 b;cases ps with
  |nil=>simp at e
  |cons c rest=>
   cases rest with
    |cons _ _=>simp at b
    |nil=>
     rw[aN,cY]at e3;have hn:aw c=true:=by simpa[dg]using e3.1
     cases i with|succ i=>simp at e|zero=>simp at e;subst e;cases c<;>first|rfl|simp[aw]at hn
theorem SJ{x:Str}{ps:List D}{k:Bool}{ns:List Int}{d:Int}(wf:bu aw k (.tup (.str x::ps))=true)(c:x≠"var")(hd:d<=99)(hl:ns.length=(az x ps).length)(b:∀(i:Nat)(z:Int),ns[i]?=some z->decide (99<z)=eI (((az x ps)[i]?).getD .aW)):decide (99<maxD ns d)=eI (.tup (.str x::ps)):=by
 rw[any_max 99 ns d hd,<-SO hl b];show _=(false||gC ps);rw[Bool.false_or];unfold az;split
 ·rename_i e;symm;show gC ps=false;have g:∀a:List D,(∀p∈a,eI p=false)->gC a=false:=λa=>by induction a with|nil=>intro _;rfl|cons q a f=>intro h;rw[gC,h q d4,f λp hp=>h p (dW _ hp)];rfl
  refine g ps λp hp=>?_;obtain⟨i,hi,rfl⟩:=List.mem_iff_getElem.mp hp;exact Ee wf e c i _ (gM hi)
 ·rfl
def KA(n:Nat):Sp:=λvs H Q _=>∃(d:D)(v:V),vs=[v]/\Rep H d v/\Rz d n/\∀(i:Int)(H':Hp),decide (99<i)=eI d->aM H H'->Q (.int i) H'
theorem qX:aT ["thing"] ["thing"] (ar c_):=⟨rfl,rfl,rfl,by decide+kernel,rfl,by decide+kernel,by decide+kernel⟩
theorem qS{n:Nat}(D:Df K mg "top_variable" c_ ["thing"])(M:Mg mg t)(G:bp P w K mg bE "kids_of" (1) ["thing"] eS)(I:bp P w K mg bE "top_variable" (n+3) ["thing"] (KA n)):bp P w K mg bE "top_variable" (n+4) ["thing"] (KA (n+1)):=by
 refine D.ok qX (λvs H Q E h=>?_) (λbase f cS A outer s H vs Q E u h=>?_);·obtain⟨d,v,rfl,_⟩:=h;rfl
 obtain⟨d,v,rfl,r,rz,q⟩:=h;obtain⟨x,ps,k,rfl,wf,W⟩:=kZ rz.wf;have T:=C8 wf;obtain⟨a,F,rfl,ha,v0,F,rfl,⟨rfl,o⟩,rp⟩:=id r;have L:lP (V.str x::F) 0=some (.str x):=aE (j:=0) rfl;refine⟨_,(ai (ba (aI bR (aP aR (pv 0) ah (λ_ _=>rfl)) ao (aQ _)) (aj (ay (aP aR (pv 0) ah (λ_ _=>rfl)))) aO) (aj (ay (Ul M.HX (ae (oh (N':=["kid"]) (own:=1) (fr:=[]) rfl (lF (N:=["thing"]) (sc:=ar c_) rfl rfl rfl (by decide+kernel)) (kC (aJ G u.m rfl aK (ae (pv 0) ag))) (iC (by decide)) (λ_ _ _=>(bL (i:=0) (show List.Nodup (["kid"]:List Str)by decide+kernel) rfl (Or.inl rfl))) (λ_ _ _=>me) (λ_ _ _=>(aJ I u.m rfl aK (ae (pv 0) ag)))) ag) (Ua ah Yo))))),?_⟩;try dsimp only[gu,cH]
 refine pb ?_;intro _ _;refine⟨_,rfl,a,_,_,_,rfl,rfl,bS.of ha,L,rfl,_,rfl,?_⟩;refine aY (λc=>?_) (λc=>?_)
 ·have c:V.str x=V.str "var":=of_decide_eq_true c;cases c;obtain⟨sh,e1,_,e3,_,l,_⟩:=bM wf;rw[eO]at e1;cases e1;rw[xV]at e3 l;obtain⟨b,rfl⟩:∃b,ps=[b]:=by cases ps with|nil=>simp at l|cons b rest=>cases rest with|nil=>exact⟨b,rfl⟩|cons _ _=>simp at l
  rw[aN,cY]at e3;have hn:iB b=true:=by simpa[dg]using e3.1
  obtain⟨i,rfl⟩:∃i,b= .int i:=by cases b<;>first|exact⟨_,rfl⟩|simp[iB]at hn
  obtain⟨u1,YI,rfl,e,_⟩:=rp;cases(show u1=V.int i from e);have hi:decide (99<i)=eI (.tup [.str "var", .int i]):=by simp[eI,gC]
  exact⟨_,rfl,a,_,_, .int i,rfl,rfl,bS.of ha,aE (j:=1) rfl,q i H hi (aM.refl H)⟩
 refine⟨_,rfl,x,ps,_,rfl,r,W,λZ us H1 _ s1 h1 e=>⟨Z,rfl,⟨us,bH.of h1⟩,λp2 U=>?_⟩⟩;have l1:=e.length;refine L9 (az x ps).length (λi z=>decide (99<z)=eI (((az x ps)[i]?).getD .aW)) U (c8 T (by decide)) (λi p hi s2=>?_) λns p s2 hl O h2=>⟨⟨us,bH.of (s2 _ _ h1),by lia⟩,?_⟩;·obtain⟨g,m⟩:∃g,(az x ps)[i]?=some g:=⟨_,gM hi⟩;obtain⟨C,B,Uz⟩:=e.get m;refine⟨⟨us,C,bH.of (s2 _ _ h1),B⟩,?_⟩;rintro y H3⟨rfl,X⟩R S;have o:=X us (bH.of (s2 _ _ h1));rw[B]at o;cases o;exact⟨_,rfl,g,C,rfl,Uz.mono s2,rz.kid m,λz J Y s4=>S z J s4 (by rw[m];exact Y)⟩
 ·refine⟨p2,ns,_,rfl,rfl,bH.of h2,?_⟩;exact q _ p (SJ wf (λz=>c (by rw[z];exact decide_eq_true rfl)) (by decide) hl O) (s1.trans s2)
theorem j5(D:Df K mg "top_variable" c_ ["thing"])(M:Mg mg t)(a:bp P w K mg bE "kids_of" (1) ["thing"] eS):∀n:Nat,bp P w K mg bE "top_variable" (n+3) ["thing"] (KA n)|0=>bp.never D λvs H Q E⟨d,v,_,_,h,_⟩=>absurd h.dp (Nat.not_lt_zero _)|n+1=>qS D M a (j5 D M a n)
def pA(C:Addr)(n:Nat):Sp:=λvs H Q E=>∃(d:D)(v:V),vs=[v]/\Rep H d v/\Rz d n/\(∀H',aM H H'->(dw d||eI d)=false->Q v H')/\(∀H',aM H H'->(dw d||eI d)=true->E (.ref C) none H')
theorem HF:aT ["thing"] ["thing"] (ar kG):=⟨rfl,rfl,rfl,by decide+kernel,rfl,by decide+kernel,by decide+kernel⟩
theorem MH{n:Nat}(D:Df K mg "bounded" kG ["thing"])(M:Mg mg t)(j:nM K t.cx)(l:bp P w K mg bE "is_vast" (1) ["value"] P6)(o:bp P w K mg bE "top_variable" (n+3) ["thing"] (KA n)):bp P w K mg (gv P w) "bounded" (n+4) ["thing"] (pA t.cx n):=by
 refine D.Sf HF (λvs H Q E h=>?_) (λbase f cS A outer s H vs Q E b h=>?_);·obtain⟨d,v,rfl,_⟩:=h;rfl
 obtain⟨d,v,rfl,r,rz,q,g⟩:=h;obtain⟨x,ps,k,rfl,wf,y⟩:=kZ rz.wf;refine⟨_,(ai (ba (L2.PW.pt (kW (gL (aJ l b.m rfl aK (ae (pv 0) ag))) (j1 (aI ng (aJ o b.m rfl aK (ae (pv 0) ag)) (CO M.g_MOST_VARIABLE rfl) (aQ _))))) (aj (l_ (G:=(λH'=>E (.ref t.cx) none H')) j M.g_Great (ae ao ag) (λpins σ H s e h' I m q=>xh I m q))) aO) (aj (ay (pv 0)))),?_⟩;try dsimp only[gu,u]
 refine pb ?_;intro _ _;refine⟨_,rfl,_,v,rfl,r,N6 wf,rz.kn,λp s1=>⟨_,rfl,?_⟩⟩;refine aY (λc=>qR ⟨by decide,g p s1 (by rw[c];rfl)⟩) (λc=>?_);refine⟨_,rfl,_,v,rfl,r.mono s1,rz,λi a hi s2=>⟨_,_,rfl,rfl,_,rfl,?_⟩⟩;have c:dw (.tup (.str x::ps))=false:=Bool.eq_false_iff.mpr c;refine aY (λc2=>⟨by decide,g a (s1.trans s2) (by rw[<-hi,c];exact c2)⟩) (λc2=>⟨_,rfl,q a (s1.trans s2) (by rw[<-hi,c];exact Bool.eq_false_iff.mpr c2)⟩)
noncomputable def cB(x:Str)(ps a:List D):D:=if a=[]then .tup (.str x::ps)else .tup (.str x::a)
def iN:Sp:=λvs H Q _=>∃(x:Str)(ps b:List D)(v:V)(a:Addr)(us:List V),vs=[v, .ref a]/\Rep H (.tup (.str x::ps)) v/\H a=some (.lst us)/\bz H b us/\b.length<=10/\∀(u:V)(H':Hp),aM H H'->Rep H' (cB x ps b) u->Q u H'
theorem G9:aT ["thing","kids"] ["thing","kids"] (ar kM):=⟨rfl,rfl,rfl,by decide+kernel,rfl,by decide+kernel,by decide+kernel⟩
theorem Ng(D:Df K mg "rebuilt" kM ["thing","kids"])(M:Mg mg t):bp P w K mg bE "rebuilt" (1) ["thing","kids"] iN:=by
 refine D.ok G9 (λvs H Q E h=>?_) (λbase f cS A outer s H vs Q E C h=>?_);·obtain⟨x,ps,d,v,a,us,rfl,_⟩:=h;rfl
 obtain⟨x,ps,d,v,a,us,rfl,r,ha,e,hl,q⟩:=h;have n:=e.length;obtain⟨b,y,rfl,hb,v0,y,rfl,⟨rfl,m⟩,F⟩:=id r;refine⟨_,(ai (ba (aI bR (bj bC rfl M.gQ eG (ae (pv 1) ag)) ah (aQ _)) (aj (ay (pv 0))) aO) (aj (ay (aS tN (av (ae (aP aR (pv 0) ah (λ_ _=>rfl)) ag)) (fA zw rfl M.Bn yX (ae (pv 1) ag)))))),?_⟩;try dsimp only[gu,B]
 refine pb ?_;intro _ _;refine⟨_,rfl,a,_,rfl, .inl (bH.of ha),rfl,_,rfl,?_⟩;refine aY (λc=>?_) (λc=>?_)
 ·have c:V.int ((us.length:Nat):Int)=V.int 0:=of_decide_eq_true c;have hq:d=[]:=by injection c with c;exact List.length_eq_zero_iff.mp (by lia)
  refine⟨_,rfl,q _ H (aM.refl H) ?_⟩;unfold cB;rw[if_pos hq];exact r
 ·have hq:d≠[]:=λz=>c (by subst z;have :us.length=0:=n;rw[this];exact decide_eq_true rfl);refine⟨_,rfl,b,_,_,_,rfl,rfl,bS.of hb,aE (j:=0) rfl,(cN rfl),λo k=>?_⟩;have s1:=aq k (.tup [V.str x]);refine⟨_,rfl,a,us,rfl, .inl ⟨bH.of (s1 _ _ ha),λp l=>?_⟩⟩;have s2:=aq l (.tup us);refine⟨o,p,_,_,rfl,rfl,s2 _ _ ak,ak,?_,λu i g h3=>?_⟩;·rw[EY,sizeLine_eq];lia
  ·refine q _ i (s1.trans (s2.trans g)) ?_;unfold cB;rw[if_neg hq];exact⟨u,_,rfl,h3,_,_,rfl,⟨rfl,m⟩,e.mono (s1.trans (s2.trans g))⟩
noncomputable def yf(d:D):Bool:=Ri d&&!OC d
def EZ:Sp:=λvs H Q _=>∃d v,vs=[v]/\Rep H d v/\Q (.bl (yf d)) H
theorem A_:aT ["value"] ["value"] (ar hU):=⟨rfl,rfl,rfl,by decide+kernel,rfl,by decide+kernel,by decide+kernel⟩
theorem Ey(D:Df K mg "is_number" hU ["value"])(M:Mg mg t):bp P w K mg bE "is_number" (1) ["value"] EZ:=by
 refine D.ok A_ (λvs H Q E h=>?_) (λbase f cS A outer s H vs Q E b h=>?_);·obtain⟨d,v,rfl,_⟩:=h;rfl
 obtain⟨d,v,rfl,r,q⟩:=h;refine⟨_,(aj (ay (GY (bj fV rfl M.bZ bP (ae (pv 0) (ae (z_ M.O_ G2 rfl) ag))) (xA (XR (bj fV rfl M.bZ bP (ae (pv 0) (ae (z_ M.aat T7 rfl) ag)))))))),?_⟩;try dsimp only[gu,a]
 refine⟨_,rfl,_,_,_,_,rfl,r.ty,Uk _ d,_,rfl,?_⟩;refine aY (λc=>?_) (λc=>?_)
 ·refine⟨_,rfl,_,_,_,_,rfl,r.ty,ZV _ d,_,rfl,?_⟩;have e:yf d=!OC d:=by unfold yf;rw[c];rfl
  rw[e]at q;exact q
 ·have e:yf d=false:=by unfold yf;rw[Bool.eq_false_iff.mpr c];rfl
  rw[e]at q;exact q
noncomputable def yR:D->List D| .tup (.str x::ps)=>az x ps|_=>[]
noncomputable def dY(d:D)(i:Int):Option D:=if 0<=i then(yR d)[i.toNat]? else none
noncomputable def goto:D->List Int->Option D|d,[]=>some d|d,i::is=>match dY d i with|none=>none|some p=>goto p is
noncomputable def headD:D->Str| .tup (.str x::_)=>x|_=>""
noncomputable def bnd(d:D)(i:Int):Int:=if decide (V.int i=DG (headD d))=true then 1 else 0
noncomputable def over:D->List Int->Int|_,[]=>0|d,i::is=>match dY d i with|none=>0|some p=>bnd d i+over p is
theorem nc{d p:D}{i:Int}(h:Wf d)(e:dY d i=some p):Wf p:=by
 obtain⟨k,h⟩:=h;obtain⟨x,ps,rfl⟩:=cz h;unfold dY at e;split at e;·exact(jo h e).1
 ·cases e
theorem fi{d p:D}{i:Int}{is:List Int}(e:dY d i=some p):goto d (i::is)=goto p is:=by rw[goto,e]
theorem iQ{d:D}{i:Int}{is:List Int}(e:dY d i=none):goto d (i::is)=none:=by rw[goto,e]
theorem Qn{d:D}{i:Int}(h1:0<=i)(h2:i<(yR d).length):∃p,dY d i=some p/\(yR d)[i.toNat]?=some p:=by unfold dY;rw[if_pos h1];exact⟨_,gM (by lia),gM (by lia)⟩
theorem Ao{d:D}{i:Int}(h:¬(0<=i/\i<(yR d).length)):dY d i=none:=by
 unfold dY;split;·rename_i h1;exact List.getElem?_eq_none_iff.mpr (by lia)
 ·rfl
def sV(C:Addr):Sp:=λvs H Q E=>∃(d:D)(v:V)(i:Int),vs=[v, .int i]/\Rep H d v/\Wf d/\(∀(p:D)(u:V)(H':Hp),aM H H'->dY d i=some p->Rep H' p u->Q u H')/\(∀H',aM H H'->dY d i=none->E (.ref C) none H')
theorem Ag:aT ["thing","number","kids"] ["thing","number"] (ar nV):=⟨rfl,rfl,rfl,by decide+kernel,rfl,by decide+kernel,by decide+kernel⟩
theorem NO(D:Df K mg "kid_at" nV ["thing","number"])(M:Mg mg t)(o:nM K t.cb)(B:bp P w K mg bE "kids_of" (1) ["thing"] eS)(y:bp P w K mg bE "is_number" (1) ["value"] EZ):bp P w K mg (gv P w) "kid_at" (2) ["thing","number"] (sV t.cb):=by
 refine D.Sf Ag (λvs H Q E h=>?_) (λbase f cS A outer s H vs Q E g h=>?_);·obtain⟨d,v,i,rfl,_⟩:=h;rfl
 obtain⟨d,v,i,rfl,r,wf,q,N⟩:=h;obtain⟨x,ps,k,rfl,T,J⟩:=kZ wf;refine⟨_,(ai (aF (i:=2) Ag.nd rfl (bY rfl) (aJ B g.m rfl aK (ae (pv 0) ag))) (ai (ba (L2.PW.pt (kW (pq (gL (aJ y g.m rfl aK (ae (pv 1) ag)))) (j1 (pq (Qg Xd jK ah (pv 1) (bj bC rfl M.gQ eG (ae (pv 2) ag))))))) (aj (l_ (G:=(λH'=>E (.ref t.cb) none H')) o M.g_NoPlace (ae ao ag) (λpins σ H s e h' I m q=>xh I m q))) aO) (aj (ay (aP bQ (pv 2) (pv 1) (λ_ _=>rfl)))))),?_⟩;try dsimp only[gu,R]
 refine Cy ?_;intro _ _ _;refine⟨_,rfl,x,ps,v,rfl,r,J,λl us a S s1 h1 n=>?_⟩;have j:=n.length;have F:yR (.tup (.str x::ps))=az x ps:=rfl;refine⟨_,rfl, .int i,_,rfl,rfl,?_⟩;have b:dY (.tup (.str x::ps)) i=none->E (.ref t.cb) none a:=λz=>N a s1 z;refine⟨true,rfl,jP ⟨_,rfl,_,_,rfl,rfl,_,rfl,?_⟩⟩;refine aY (λc=>?_) (λc=>?_)
 ·have c:(0:Int)<=i:=of_decide_eq_true c;refine⟨_,rfl,l,_,rfl, .inl (bH.of h1),_,_,rfl,rfl,_,rfl,?_⟩;by_cases c2:i<((us.length:Nat):Int)
  ·rw[decide_eq_true c2];refine jP ?_;obtain⟨p,e1,e2⟩:=Qn (d:= .tup (.str x::ps)) c (by rw[F,<-j];exact c2);obtain⟨u,L,O⟩:=n.get e2;have C:i=((i.toNat:Nat):Int):=by lia
   exact⟨_,rfl,_,rfl,l,_,_,u,rfl,rfl,bH.of h1,(by rw[C];exact aE L),q p u a s1 e1 O⟩
  ·rw[decide_eq_false c2];exact qR ⟨by decide,b (Ao λz=>c2 (by rw[j];exact z.2))⟩
 ·have c:¬(0:Int)<=i:=of_decide_eq_false (Bool.eq_false_iff.mpr c);exact⟨_,rfl,qR ⟨by decide,b (Ao λz=>c z.1)⟩⟩
noncomputable def Su(pl:List Int):D:= .tup (pl.map D.int)
theorem X0{H:Hp}{pl:List Int}{vs:List V}(r:bz H (pl.map D.int) vs){j:Nat}{i:Int}(e:pl[j]?=some i):vs[j]?=some (.int i):=by obtain⟨v,h1,h2⟩:=r.get (i:=j) (d:= .int i) (by rw[List.getElem?_map,e];rfl);rw[h1,show v=V.int i from h2]
theorem drop_cons{a:Type}{l:List a}{j:Nat}{i:a}(e:l[j]?=some i):l.drop j=i::l.drop (j+1):=by obtain⟨h,rfl⟩:=List.getElem?_eq_some_iff.mp e;exact List.drop_eq_getElem_cons h
def acY(C:Addr):Sp:=λvs H Q E=>∃(d:D)(v:V)(pl:List Int)(pv:V),vs=[v,pv]/\Rep H d v/\Wf d/\Rep H (Su pl) pv/\(∀(e:D)(u:V)(H':Hp),aM H H'->goto d pl=some e->Rep H' e u->Q u H')/\(∀H',aM H H'->goto d pl=none->E (.ref C) none H')
theorem il:aT ["thing","place","here","number"] ["thing","place"] (ar jB):=⟨rfl,rfl,rfl,by decide+kernel,rfl,by decide+kernel,by decide+kernel⟩
theorem F_(D:Df K mg "at_place" jB ["thing","place"])(M:Mg mg t)(z:bp P w K mg (gv P w) "kid_at" (2) ["thing","number"] (sV t.cb)):bp P w K mg (gv P w) "at_place" (3) ["thing","place"] (acY t.cb):=by
 refine D.Sf il (λvs H Q E h=>?_) (λbase f cS A outer s H vs Q E C h=>?_);·obtain⟨d,v,pl,pv,rfl,_⟩:=h;rfl
 obtain⟨d,v,pl,pv,rfl,r,wf,I,q,F⟩:=h;obtain⟨a,ws,rfl,ha,y⟩:=I;have x:=y.length;rw[dI]at x;refine⟨_,(ai (aF (i:=2) il.nd rfl (bY rfl) (pv 0)) (ai (fz WE rfl (GK (pv 1)) (bL (i:=3) il.nd rfl (bY rfl)) (aj (aF (i:=2) il.nd rfl (bY rfl) (aJ z C.m rfl dN (ae (pv 2) (ae (pv 3) ag)))))) (aj (ay (pv 2))))),?_⟩;try dsimp only[gu,N]
 refine Cy ?_;intro _ _ _;refine⟨_,rfl,_,rfl,a,rfl,⟨_,bS.of ha⟩,?_⟩;let B:Nat->L2.St->Hp->Prop:=(λj n H'=>∃(e:KM.D)(u:V)(k:Option V),n=[some v,some (.ref a),some u,k]/\Rep H' e u/\Wf e/\goto d pl=goto e (pl.drop j)/\aM H H');refine gy ws.length B ?_ ?_ ?_;·exact⟨d,v,none,rfl,r,wf,rfl,aM.refl _⟩
 ·rintro j n o O⟨e,u,k,rfl,l,m,b,s1⟩;obtain⟨i,hi⟩:∃i,pl[j]?=some i:=⟨_,gM (by lia)⟩;have hw:=X0 y hi;refine⟨⟨ws,_,bS.of (s1 _ _ ha),hw⟩,?_⟩;rintro R L⟨rfl,g⟩;have g:=g ws (bS.of (s1 _ _ ha));rw[hw]at g;cases g;rw[drop_cons hi]at b;refine⟨_,rfl,_,rfl,e,u,i,rfl,l,m,λp J H' s' c G=>?_,λH' s' c=>?_⟩;·exact⟨p,J,_,rfl,G,nc m c,by rw[b,fi c],s1.trans s'⟩
  ·exact F H' (s1.trans s') (by rw[b,iQ c])
 ·rintro n o⟨e,u,k,rfl,l,m,b,s1⟩;rw[x,List.drop_length]at b;exact⟨⟨ws,bS.of (s1 _ _ ha),bK _⟩,_,rfl,q e u o s1 b l⟩
end K23
end
section
namespace K23
open PySem L2 L3 KM PyProof.Rows
noncomputable def putD:D->List Int->D->D|_,[],e=>e| .tup (.str x::ps),i::is,e=> .tup (.str x::ps.set i.toNat (putD ((ps[i.toNat]?).getD .aW) is e))|d,_::_,_=>d
theorem kO{x:Str}{ps:List D}{i:Int}{p:D}(h:dY (.tup (.str x::ps)) i=some p):0<=i/\cZ x=false/\ps[i.toNat]?=some p:=by
 unfold dY at h;split at h
 ·rename_i a;have h:(az x ps)[i.toNat]?=some p:=h;unfold az at h;split at h;·simp at h
  ·rename_i b;exact⟨a,by simpa using b,h⟩
 ·cases h
theorem xo{x:Str}{ps:List D}{i:Int}{is:List Int}{p e:D}(h:dY (.tup (.str x::ps)) i=some p):putD (.tup (.str x::ps)) (i::is) e= .tup (.str x::ps.set i.toNat (putD p is e)):=by rw[putD,(kO h).2.2];rfl
theorem Ik{b:D->Bool}:∀{cs:List Nat}{ps:List D}{i c:Nat}{q:D},dZ b cs ps=true->cs[i]?=some c->dg b c q=true->dZ b cs (ps.set i q)=true|[],[],_,_,_,_,e,_=>by simp at e|[],_::_,_,_,_,h,_,_=>by simp[dZ]at h|_::_,[],_,_,_,h,_,_=>by simp[dZ]at h|a::cs,p::ps,0,c,q,h,e,hq=>by simp at e;subst e;rw[aN,cY]at h;rw[List.set_cons_zero,aN,hq,h.2];rfl|a::cs,p::ps,i+1,c,q,h,e,hq=>by rw[aN,cY]at h;rw[List.set_cons_succ,aN,h.1,Ik h.2 (by simpa using e) hq];rfl
theorem Ky{b:D->Bool}:∀{cs:List Nat}{ps:List D}{i:Nat}{p:D},dZ b cs ps=true->ps[i]?=some p->∃c,cs[i]?=some c/\dg b c p=true|[],[],_,_,_,e=>by simp at e|[],_::_,_,_,h,_=>by simp[dZ]at h|_::_,[],_,_,h,_=>by simp[dZ]at h|a::cs,p::ps,0,q,h,e=>by simp at e;subst e;rw[aN,cY]at h;exact⟨a,rfl,h.1⟩|a::cs,p::ps,i+1,q,h,e=>by rw[aN,cY]at h;obtain⟨c,h1,h2⟩:=Ky (i:=i) h.2 (by simpa using e);exact⟨c,by simpa using h1,h2⟩
theorem ZH{b:D->Bool}{k a:Bool}{d:D}(h:bu b k d=true)(h':bu b a d=true):k=a:=by obtain⟨x,ps,rfl⟩:=cz h;obtain⟨_,_,e1,_⟩:=bM h;obtain⟨_,_,e2,_⟩:=bM h';rw[<-e1,<-e2]
theorem GD{e g:D}{l:Bool}(f:bu aw l g=true)(b:bu aw l e=true):∀(pl:List Int)(d:D)(k:Bool),bu aw k d=true->goto d pl=some g->bu aw k (putD d pl e)=true
 |[],d,k,h,z=>by cases z;rw[putD,ZH h f];exact b
 |i::is,d,k,h,z=>by
  obtain⟨x,ps,rfl⟩:=cz h;cases a:dY (.tup (.str x::ps)) i with
   |none=>rw[iQ a]at z;cases z
   |some p=>
    rw[fi a]at z;rw[xo a];obtain⟨i0,o,hp⟩:=kO a;obtain⟨s,h1,h2,h3,h4,h5,h6,m,_⟩:=bM h;obtain⟨c,hc,hd⟩:=Ky h3 hp;refine cX h1 h2 (Ik h3 hc ?_);have n:=m o c (zK hc);unfold dg at hd⊢;rcases n with j|j;·rw[if_pos j]at hd⊢;exact GD f b is p true hd z
    ·rw[if_neg (by lia),if_pos j]at hd⊢;exact GD f b is p false hd z
theorem AJ{q:D}{m:Nat}(hq:depth q<=m):∀{ps:List D}{i:Nat},aD ps<=m->aD (ps.set i q)<=m|[],_,h=>by simpa using h|a::ps,0,h=>by rw[List.set_cons_zero];simp only[aD]at h⊢;lia|a::ps,i+1,h=>by rw[List.set_cons_succ];simp only[aD]at h⊢;have :=AJ (q:=q) (m:=m) hq (ps:=ps) (i:=i) (by lia);lia
noncomputable def zJ(pl:List Nat):List Int:=pl.map λn:Nat=>(n:Int)
end K23
end
section
namespace L3
open PySem PySem.Spec PyProof.Rows L2 KM
mutual noncomputable def pyD:D->PyData| .aW=> .none| .bl b=> .bool b| .int i=> .int i| .str x=> .str x| .tup ds=> .tuple (Zl ds)noncomputable def Zl:List D->List PyData|[]=>[]|d::ds=>pyD d::Zl ds end
mutual theorem DS:∀d:D,(pyD d).depth<=depth d| .aW=>eB _| .bl _=>eB _| .int _=>eB _| .str _=>eB _| .tup ds=>by show PyData.depthAll (Zl ds)+1<=1+aD ds;have :=AL ds;lia theorem AL:∀ds:List D,PyData.depthAll (Zl ds)<=aD ds|[]=>eB _|d::ds=>by show max (pyD d).depth (PyData.depthAll (Zl ds))<=max (depth d) (aD ds);have h1:=DS d;have h2:=AL ds;lia end
section
variable{X:Cx}{pins:List (Addr×Obj)}{σ:L2.St}{H:Hp}{s:Shared}
end
mutual noncomputable def CI:D->Bool| .aW=>true| .bl _=>false| .int _=>true| .str x=>(PyData.str x).canLay0| .tup ds=>SH ds noncomputable def SH:List D->Bool|[]=>true|d::ds=>CI d&&SH ds end
mutual theorem Kr:∀d:D,CI d=true->(pyD d).canLay0=true| .aW,_=>rfl| .bl _,h=>by cases h| .int _,_=>rfl| .str x,h=>h| .tup ds,h=>Ei ds h theorem Ei:∀ds:List D,SH ds=true->PyData.canLayAll0 (Zl ds)=true|[],_=>rfl|d::ds,h=>by have h:(CI d&&SH ds)=true:=h;rw[cY]at h;show((pyD d).canLay0&&PyData.canLayAll0 (Zl ds))=true;rw[Kr d h.1,Ei ds h.2];rfl end
theorem shp{d:D}(h:CI d=true)(hd:depth d<=60):SeqAt.shaped (pyD d)=true:=by unfold SeqAt.shaped;rw[Kr d h,Bool.true_and];exact decide_eq_true (c8 (DS d) (by lia))
theorem My{J:It}{p:Addr}{l:Hp}{g:TG}{A:TT}{z:TE}{b:L2.St}{C:Hp->Prop}(n:Nat)(f:Nat->Option D)(hp:l p=none)(hn:n<=sizeLine)(F:∀i a,i<n->aM l a->J.go i a/\∀x j,J.zH i a x j->∀(R:V->Hp->Prop)(w:Hp->Prop),(∀(d:D)(v:V)k,f i=some d->aM a k->Rep k d v->R v k)->(∀h,f i=none->aM a h->w h)->g x b j λr t=>A r t λok h=>if ok=true then z r h R else w h)(hd:∀(vs:List V)a,aM l a->a p=some (.lst vs)->bz a ((List.range n).filterMap f) vs->J.stop n a/\C a):∃W:Nat->Nat->List V->Hp->Prop,(∃m,W 0 m [] (upd l p (.lst [])))/\∀i m c a,W i m c a->(J.stop i a/\C a)\/(J.go i a/\∀x j,J.zH i a x j->g x b j λr t=>A r t λok h=>if ok=true then z r h λv k=>k p=some (.lst c)/\c.length<sizeLine/\∃o,o<m/\W (i+1) o (c++[v]) (upd k p (.lst (c++[v])))else∃o,o<m/\W (i+1) o c h):=by
 refine kE (Q:=λ_ H=>C H) n (λi c a=>bz a ((List.range i).filterMap f) c/\a p=some (.lst c)/\aM l a) ⟨rfl,ak,aq hp _⟩ ?_ ?_
 ·rintro i c a hi⟨q,h2,s2⟩;obtain⟨B,E⟩:=F i a hi s2;have G:c.length<sizeLine:=by have h1:=q.length;have :=List.length_filterMap_le f (List.range i);rw[List.length_range]at this;lia
  refine⟨B,λx j y=>E x j y _ _ (λd v k e s I=>⟨s _ _ h2,G,nx hi ⟨?_,ak,d_ (s2.trans s) hp⟩⟩) λh e u=>nx hi ⟨?_,u _ _ h2,s2.trans u⟩⟩
  ·rw[List.range_succ,List.filterMap_append];have e1:List.filterMap f [i]=[d]:=by simp[e]
   rw[e1];exact((q.mono s).append (bz.one I)).gX (s _ _ h2)
  ·rw[List.range_succ,List.filterMap_append];have e1:List.filterMap f [i]=[]:=by simp[e]
   rw[e1,kS];exact q.mono u
 ·rintro c a⟨q,h2,s2⟩;exact hd c a s2 h2 q
def Mk(σ:L2.St)(a:Hp)(b:TE)(d:D):Prop:=∀H,aM a H->∀R:V->Hp->Prop,(∀v H',aM H H'->Rep H' d v->R v H')->b σ H R
def Mks(σ:L2.St)(a:Hp)(b:TA)(ds:List D):Prop:=∀H,aM a H->∀R:List V->Hp->Prop,(∀vs H',aM H H'->bz H' ds vs->R vs H')->b σ H R
theorem eW{σ:L2.St}{a:Hp}{i:Nat}{v:V}{d:D}(h:σ[i]?=some (some v))(r:Rep a d v):Mk σ a (Zs i) d:=λH s R b=>⟨v,h,b v H (aM.refl H) (r.mono s)⟩
theorem eE{σ:L2.St}{a:Hp}{x:Str}(h:x.length<=1000:=by decide+kernel):Mk σ a (tC (.str x)) (.str x):=λH _ R b=>b _ H (aM.refl H) ⟨rfl,h⟩
theorem OQ{σ:L2.St}{a:Hp}{i:Int}:Mk σ a (tC (.int i)) (.int i):=λH _ R b=>b _ H (aM.refl H) rfl
theorem dD{σ:L2.St}{a:Hp}:Mks σ a Xo []:=λH _ R b=>b [] H (aM.refl H) rfl
theorem bW{σ:L2.St}{a:Hp}{c:TE}{b:TA}{d:D}{ds:List D}(h1:Mk σ a c d)(h2:Mks σ a b ds):Mks σ a (KP c b) (d::ds):=λH s R g=>h1 H s _ λv e s1 h=>h2 e (s.trans s1) _ λvs f s2 i=>g _ f (s1.trans s2) ⟨v,vs,rfl,h.mono s2,i⟩
theorem eK{σ:L2.St}{a:Hp}{c:TA}{ds:List D}(h:Mks σ a c ds)(hl:ds.length<=sizeLine:=by decide):Mk σ a (aa4 c) (.tup ds):=λH s R d=>h H s _ λvs e s1 b=>⟨by rw[b.length];exact hl,λp hp=>d _ _ (s1.trans (aq hp _)) ⟨p,vs,rfl,ak,b.mono (aq hp _)⟩⟩
theorem To{σ:L2.St}{a:Hp}{K:PySem.W.Frag}{c:TA}{e:TE}{ds:List D}{j:Nat}{d:D}(h:Mks σ a c ds)(hi:∀H(R:V->Hp->Prop),R (.int (j:Nat)) H->e σ H R)(hd:ds[j]?=some d)(hl:ds.length<=sizeLine:=by decide):Mk σ a (Yq (SU K) (Y7 c) e) d:=λH s R f=>h H s _ λvs k s1 b=>⟨by rw[b.length];exact hl,λp hp=>hi _ _ (by have t:=aq hp (.lst vs);obtain⟨u,g,i⟩:=b.get hd;exact⟨p,vs,_,u,rfl,rfl,bH.of ak,aE g,f u _ (s1.trans t) (i.mono t)⟩)⟩
theorem eT{σ:L2.St}{a:Hp}{K:PySem.W.Frag}{b:TA}{c:TE}{R:V->Hp->Prop}(ds:List D)(j:Nat)(d:D)(h:Mks σ a b ds)(hi:∀H(R:V->Hp->Prop),R (.int (j:Nat)) H->c σ H R)(hd:ds[j]?=some d)(hl:ds.length<=sizeLine)(e:∀v H',aM a H'->Rep H' d v->R v H'):Yq (SU K) (Y7 b) c σ a R:=To h hi hd hl a (aM.refl _) R e
section
variable{P:Program}{w:World}
open SeqAt MeetsSeq3 in open SeqAt MeetsSeq3 in end
section
variable{X:Cx}
end
end L3
end
section
namespace K23
open PySem L2 L3 KM PyProof.Rows
seal L2.PE L2.PS L2.iz L2.PT L2.PW L2.PA L2.PG L2.AR L2.PI L2.PC L2.PO L2.An L2.PK L3.AV
variable{P:Program}{w:World}{K:PySem.W.Frag}{mg:Str->Option Value}{base:Heap}{t:wY}
noncomputable def zS:D->Str| .tup (.str x::_)=>x|_=>""
noncomputable def EO(inb:Str->Bool):D->V| .str y=>if inb y=true then .str "name"else .aW|_=> .aW
noncomputable def eP(inb:Str->Bool)(x:Str)(ps:List D):V:=if x="name"then EO inb ((ps[0]?).getD .aW)else if x="app"then(if zS ((ps[0]?).getD .aW)="fun"then .str "fun"else .aW)else if x="carry"then(if zS ((ps[2]?).getD .aW)="like"then .str "like"else .aW)else if x="first"then(if zS ((ps[0]?).getD .aW)="pair"then .str "first"else .aW)else if x="second"then(if zS ((ps[0]?).getD .aW)="pair"then .str "second"else .aW)else if x="rec"then(if zS ((ps[3]?).getD .aW)="zero"then .str "zero"else if zS ((ps[3]?).getD .aW)="next"then .str "next"else .aW)else .aW
noncomputable def bI(inb:Str->Bool):D->V| .tup (.str x::ps)=>eP inb x ps|_=> .aW
theorem RG{b:D->Bool}:∀{cs:List Nat}{ps:List D}{i c:Nat},dZ b cs ps=true->cs[i]?=some c->∃p,ps[i]?=some p/\dg b c p=true|[],[],_,_,_,e=>by simp at e|[],_::_,_,_,h,_=>by simp[dZ]at h|_::_,[],_,_,h,_=>by simp[dZ]at h|a::cs,p::ps,0,c,h,e=>by simp at e;subst e;rw[aN,cY]at h;exact⟨p,rfl,h.1⟩|a::cs,p::ps,i+1,c,h,e=>by rw[aN,cY]at h;obtain⟨c,h1,h2⟩:=RG (i:=i) h.2 (by simpa using e);exact⟨c,by simpa using h1,h2⟩
theorem part_of{k:Bool}{x s:Str}{ps:List D}(h:bu aw k (.tup (.str x::ps))=true)(a:dJ x= .str s){i:Nat}(hi:s.cps.toList[i]?=some 116):∃p,ps[i]?=some p/\bu aw false p=true:=by obtain⟨s',e1,_,e3,_⟩:=bM h;rw[a]at e1;cases e1;obtain⟨p,h1,h2⟩:=RG e3 hi;exact⟨p,h1,by simpa[dg]using h2⟩
theorem aaq{H:Hp}{k:Bool}{p:D}{u:V}(h:bu aw k p=true)(r:Rep H p u):∃(c:Addr)(us:List V),u= .ref c/\H c=some (.tup (.str (zS p)::us)):=by obtain⟨x,ps,rfl⟩:=cz h;obtain⟨c,vs,rfl,hc,v0,us,rfl,⟨rfl,_⟩,_⟩:=r;exact⟨c,us,rfl,hc⟩
theorem yq{H:Hp}{k:Bool}{x s:Str}{ps:List D}{us:List V}(h:bu aw k (.tup (.str x::ps))=true)(r:bz H ps us)(a:dJ x= .str s){i:Nat}(hi:s.cps.toList[i]?=some 116):∃(c:Addr)(ws:List V),lP (V.str x::us) ((i+1:Nat):Int)=some (.ref c)/\H c=some (.tup (.str (zS ((ps[i]?).getD .aW))::ws)):=by obtain⟨p,h1,h2⟩:=part_of h a hi;obtain⟨u,b,d⟩:=r.get h1;obtain⟨c,ws,rfl,hc⟩:=aaq h2 d;refine⟨c,ws,aE (by simpa using b),?_⟩;rw[h1];exact hc
noncomputable def e9(aH:List (Key×V))(x:Str):Bool:=(fb aH (Sum.inr x:Key)).isSome
def oG:Sp:=λvs H Q _=>∃(d:D)(v:V)(b:Addr)(aH:List (Key×V)),vs=[v, .ref b]/\Rep H d v/\Wf d/\H b=some (.dK aH)/\∀H',aM H H'->Q (bI (e9 aH) d) H'
theorem oR{k:Bool}{ps:List D}(h:bu aw k (.tup (.str "name"::ps))=true):∃y,ps=[.str y]:=by
 obtain⟨s',e1,_,e3,_⟩:=bM h;rw[gH]at e1;cases e1;rw[JG]at e3;match ps,e3 with
  |[],e3=>simp[dZ]at e3
  |[p],e3=>
   rw[aN,cY]at e3;have :aw p=true:=by simpa[dg]using e3.1
   cases p with|str y=>exact⟨y,rfl⟩|_=>simp[aw]at this
  |p::q::r,e3=>rw[aN,cY]at e3;have :=e3.2;simp[dZ]at this
def Rul(K:PySem.W.Frag)(r:Addr):Prop:=∃a1 a2 a3 a4 a5 b1 b2 b3 a b c:Addr,lZ K r [("app", .ref a1),("rec", .ref a2),("carry", .ref a3),("first", .ref a4),("second", .ref a5)]/\zm K a1 [.ref b1]/\zm K b1 [.int 1, .str "fun", .str "fun"]/\zm K a2 [.ref b2, .ref b3]/\zm K b2 [.int 4, .str "zero", .str "zero"]/\zm K b3 [.int 4, .str "next", .str "next"]/\zm K a3 [.ref a]/\zm K a [.int 3, .str "like", .str "like"]/\zm K a4 [.ref b]/\zm K b [.int 1, .str "pair", .str "first"]/\zm K a5 [.ref c]/\zm K c [.int 1, .str "pair", .str "second"]
theorem aeo(v1 a b c d:V)(x:Str):KTD.datumAt x [(("app":Str),v1),("rec",a),("carry",b),("first",c),("second",d)]=if x="app"then some v1 else if x="rec"then some a else if x="carry"then some b else if x="first"then some c else if x="second"then some d else none:=by simp only[KTD.datumAt,decide_eq_true_eq]
noncomputable abbrev Rw:=Nat×Str×Str
noncomputable def zz(ps:List D)(r:Rw):Bool:=decide (zS ((ps[r.1]?).getD .aW)=r.2.1)
noncomputable def ft(ps:List D):List Rw->V|[]=> .aW|r::rs=>if zz ps r=true then .str r.2.2 else ft ps rs
theorem ku{ps:List D}:∀{rows:List Rw}{i:Nat},(∀r∈rows.take i,zz ps r=false)->ft ps rows=ft ps (rows.drop i)|rows,0,_=>rfl|[],i+1,_=>rfl|r::rs,i+1,h=>by have a:=h r (by simp);rw[ft,if_neg (by rw[a];decide),List.drop_succ_cons];exact ku λr b=>h r (by rw[List.take_succ_cons];exact dW _ b)
theorem i_:aT ["thing","book","part","word","rule"] ["thing","book"] (ar kD):=⟨rfl,rfl,rfl,by decide+kernel,rfl,by decide+kernel,by decide+kernel⟩
theorem LY(D:Df K mg "rule_of" kD ["thing","book"])(M:Mg mg t)(T:Rul K t.JN):bp P w K mg bE "rule_of" (1) ["thing","book"] oG:=by
 refine D.ok i_ (λvs H Q E h=>?_) (λbase f cS A outer s H vs Q E g h=>?_);·obtain⟨d,v,b,aH,rfl,_⟩:=h;rfl
 obtain⟨d,v,b,aH,rfl,r,wf,hb,q⟩:=h;have hu:=x_ g;obtain⟨x,ps,k,rfl,NC,Dc⟩:=kZ wf;obtain⟨a,Mr,rfl,ha,v0,us,rfl,⟨rfl,hx⟩,rp⟩:=id r;have W:lP (V.str x::us) 0=some (.str x):=aE (j:=0) rfl;obtain⟨a1,a2,a3,a4,a5,b1,b2,b3,b4,b5,b6,TT,s1,s2,s3,s4,s5,s6,s7,s8,s9,Ug,s11⟩:=T;refine⟨_,(ai (ba (aI bR (aP aR (pv 0) ah (λ_ _=>rfl)) ao (aQ _)) (aj (ay (ky (Pb (RI hu (aP aR (pv 0) ah (λ_ _=>rfl)) (pv 1))) ao iu))) aO) (ai (fz PassesOwn.never rfl (GK (Qy (cL M.g_RULES rfl) (aP aR (pv 0) ah (λ_ _=>rfl)) (av ag) ⟨rfl,rfl,rfl,rfl⟩)) (BP (n:=3) rfl (e8 (bL (i:=2) i_.nd rfl (bY rfl)) (e8 (bL (i:=3) i_.nd rfl (bY rfl)) (e8 (bL (i:=4) i_.nd rfl (bY rfl)) wj)))) (aj (ba (aI bR (aP aR (aP aR (pv 0) (pv 2) (λ_ _=>rfl)) ah (λ_ _=>rfl)) (pv 3) (aQ _)) (aj (ay (pv 4))) aO))) (aj (ay iu)))),?_⟩;try dsimp only[gu,cH]
 refine Cy ?_;intro _ _ _;refine⟨_,rfl,a,_,_,_,rfl,rfl,bS.of ha,W,rfl,_,rfl,?_⟩;refine aY (λc=>?_) (λc=>?_);·have c:V.str x=V.str "name":=of_decide_eq_true c;cases c;obtain⟨y,rfl⟩:=oR NC;obtain⟨u,us',rfl,⟨rfl,_⟩,ru⟩:=rp;cases(show us'=[]from ru);have eq1:bI (e9 aH) (.tup [.str "name", .str y])=if e9 aH y=true then .str "name"else .aW:=rfl;rw[eq1]at q;have o:=q H (aM.refl H);refine⟨_,rfl,a,_,_, .str y,rfl,rfl,bS.of ha,aE (j:=1) rfl,_,rfl,b,_,rfl,lG.k (k:=Sum.inr y) hb,_,rfl,?_⟩;show if e9 aH y=true then _ else _;cases QR:e9 aH y with|true=>rw[QR]at o;exact o|false=>rw[QR]at o;exact o
 have nn:x≠"name":=λz=>c (by rw[z];decide+kernel);refine⟨t.JN,_,rfl,TT,_,rfl,a,_,_,_,rfl,rfl,bS.of ha,W,(cN rfl),λp XQ=>⟨x,rfl,?_⟩⟩;have B:=aq XQ (.tup []);have X:(upd H p (.tup [])) p=some (.tup []):=ak;have rp0:=rp.mono B;have Y:=B _ _ ha;generalize upd H p (.tup [])=I at B X rp0 Y⊢;rw[aeo];have key:∃(c:Addr)(rows:List Rw)(bs:List V),(if x="app"then some (V.ref a1)else if x="rec"then some (.ref a2)else if x="carry"then some (.ref a3)else if x="first"then some (.ref a4)else if x="second"then some (.ref a5)else none).getD (.ref p)= .ref c/\(∀m,aM I m->bS K m c bs)/\bs.length=rows.length/\(∀(i:Nat)(r:Rw),rows[i]?=some r->∃b':Addr,bs[i]?=some (V.ref b')/\zm K b' [.int ((r.1+1:Nat):Int), .str r.2.1, .str r.2.2])/\(∀r∈rows,∃s',dJ x= .str s'/\s'.cps.toList[r.1]?=some 116)/\eP (e9 aH) x ps=ft ps rows:=by
  have one:∀(r:Rw)(b':Addr),zm K b' [.int ((r.1+1:Nat):Int), .str r.2.1, .str r.2.2]->∀(i:Nat)(l:Rw),[r][i]?=some l->∃U,[V.ref b'][i]?=some (.ref U)/\zm K U [.int ((l.1+1:Nat):Int), .str l.2.1, .str l.2.2]:=λr b' h i l e=>by match i,e with|0,e=>cases e;exact⟨b',rfl,h⟩|i+1,e=>simp at e
  unfold eP;rw[if_neg nn];by_cases e1:x="app"
  ·subst e1;refine⟨a1,[(0,"fun","fun")],[.ref b1],by simp,λm _=> .inr s1,rfl,one _ _ s2,λr g=>?_,?_⟩;·rw[List.mem_singleton.mp g];exact⟨"tt",by decide+kernel,by decide+kernel⟩
   ·simp[ft,zz]
  by_cases e2:x="rec"
  ·subst e2;refine⟨a2,[(3,"zero","zero"),(3,"next","next")],[.ref b2, .ref b3],by simp[e1],λm _=> .inr s3,rfl,λi r e=>?_,λr g=>?_,?_⟩;·match i,e with|0,e=>cases e;exact⟨b2,rfl,s4⟩|1,e=>cases e;exact⟨b3,rfl,s5⟩|i+2,e=>simp at e
   ·have hr1:r.1=3:=by simp only[gF,jf,or_false]at g;rcases g with rfl|rfl<;>rfl
    rw[hr1];exact⟨"kttt",by decide+kernel,by decide+kernel⟩
   ·have n1:(Str.ofString "rec")≠Str.ofString "carry":=by decide+kernel
    have n2:(Str.ofString "rec")≠Str.ofString "first":=by decide+kernel
    have n3:(Str.ofString "rec")≠Str.ofString "second":=by decide+kernel
    rw[if_neg e1,if_neg n1,if_neg n2,if_neg n3,if_pos rfl];simp[ft,zz]
  by_cases e3:x="carry"
  ·subst e3;refine⟨a3,[(2,"like","like")],[.ref b4],by simp[e1,e2],λm _=> .inr s6,rfl,one _ _ s7,λr g=>?_,?_⟩;·rw[List.mem_singleton.mp g];exact⟨"ktt",by decide+kernel,by decide+kernel⟩
   ·simp[ft,zz,e1]
  by_cases e4:x="first"
  ·subst e4;refine⟨a4,[(0,"pair","first")],[.ref b5],by simp[e1,e2,e3],λm _=> .inr s8,rfl,one _ _ s9,λr g=>?_,?_⟩;·rw[List.mem_singleton.mp g];exact⟨"t",by decide+kernel,by decide+kernel⟩
   ·simp[ft,zz,e1,e3]
  by_cases J:x="second"
  ·subst J;refine⟨a5,[(0,"pair","second")],[.ref b6],by simp[e1,e2,e3,e4],λm _=> .inr Ug,rfl,one _ _ s11,λr g=>?_,?_⟩;·rw[List.mem_singleton.mp g];exact⟨"t",by decide+kernel,by decide+kernel⟩
   ·simp[ft,zz,e1,e3,e4]
  ·exact⟨p,[],[],by simp[e1,e2,e3,e4,J],λm hs=>bS.of (hs _ _ X),rfl,(λi r e=>by simp at e),(λr g=>absurd g (by simp)),(by simp[ft,e1,e2,e3,e4,J])⟩
 obtain⟨c,rows,bs,ec,hc,hl,afD,afB,LG⟩:=key;rw[ec];refine⟨c,rfl,⟨bs,hc I (aM.refl _)⟩,?_⟩;let zx:Nat->L2.St->Hp->Prop:=(λi S H'=>∃(pv R O:Option V),S=[some (.ref a),some (.ref b),pv,R,O]/\(∀r∈rows.take i,zz ps r=false)/\H'=I);refine gy bs.length zx ?_ ?_ ?_;·exact⟨none,none,none,rfl,λr g=>by simp at g,rfl⟩
 ·rintro i S m hi⟨pv',R,O,rfl,C,rfl⟩;obtain⟨l,F⟩:∃r,rows[i]?=some r:=⟨_,gM (by lia)⟩;obtain⟨b',Z,sb'⟩:=afD i l F;refine⟨⟨bs,_,hc _ (aM.refl _),Z⟩,?_⟩;rintro x' H2⟨rfl,G⟩;have G:=G bs (hc _ (aM.refl _));rw[Z]at G;cases G;obtain⟨s',ks,ki⟩:=afB l (zK F);obtain⟨c0,ws,BF,hc0⟩:=yq NC rp0 ks ki;refine⟨b',_,rfl, .inr sb',rfl,_,_,rfl,_,_,rfl,_,_,rfl,rfl,?_⟩;refine⟨_,rfl,_,rfl,a,_,_, .ref c0,rfl,rfl,bS.of Y,BF,c0,_,_,_,rfl,rfl,bS.of hc0,aE (j:=0) rfl,_,rfl,rfl,_,rfl,?_⟩;have hd:rows.drop i=l::rows.drop (i+1):=by obtain⟨h,rfl⟩:=List.getElem?_eq_some_iff.mp F;exact List.drop_eq_getElem_cons h
  refine aY (λch=>?_) (λch=>?_)
  ·have ch:V.str (zS ((ps[l.1]?).getD .aW))=V.str l.2.1:=of_decide_eq_true ch;injection ch with ch;have N:zz ps l=true:=decide_eq_true ch;refine⟨_,rfl,?_⟩;have L:bI (e9 aH) (.tup (.str x::ps))= .str l.2.2:=by show eP (e9 aH) x ps=_;rw[LG,ku C,hd,ft,if_pos N]
   have o:=q _ B;rw[L]at o;exact o
  ·have N:zz ps l=false:=decide_eq_false λz=>ch (by rw[z];exact decide_eq_true rfl);refine⟨_,_,_,rfl,λr g=>?_,rfl⟩;rw[List.take_add_one,F]at g;rcases List.mem_append.mp g with g|g;·exact C r g
   ·have :r=l:=by simpa using g
    rw[this];exact N
 ·rintro S m⟨pv',R,O,rfl,C,rfl⟩;refine⟨⟨bs,hc _ (aM.refl _),bK _⟩,?_⟩;have L:bI (e9 aH) (.tup (.str x::ps))= .aW:=by show eP (e9 aH) x ps=_;rw[LG,ku C,hl,List.drop_length,ft]
  have o:=q _ B;rw[L]at o;exact o
seal L3.PH L3.PB
theorem DU{H:Hp}:∀{ds:List D}{vs:List V}{d:D}{v:V}(i:Nat),bz H ds vs->Rep H d v->bz H (ds.set i d) (vs.set i v)|[],_,_,_,_,r,_=>by have r:_=[]:=r;subst r;exact rfl|_::_,_,_,_,0,⟨v,r,e,q,t⟩,h=>by subst e;exact⟨_,_,rfl,h,t⟩|_::_,_,_,_,i+1,⟨v,r,e,q,t⟩,h=>by subst e;exact⟨_,_,rfl,q,DU i t h⟩
def Kq(C:Addr)(n:Nat):Sp:=λvs H Q E=>∃(d:D)(v:V)(pl:List Int)(pv:V)(e:D)(a:V),vs=[v,pv,a]/\Rep H d v/\Wf d/\Rep H (Su pl) pv/\Rep H e a/\pl.length<n/\(∀(u:V)(H':Hp),aM H H'->(goto d pl).isSome=true->Rep H' (putD d pl e) u->Q u H')/\(∀H',aM H H'->goto d pl=none->E (.ref C) none H')
theorem iw:aT ["thing","place","new","kid","kids"] ["thing","place","new"] (ar eX):=⟨rfl,rfl,rfl,by decide+kernel,rfl,by decide+kernel,by decide+kernel⟩
theorem zB{n:Nat}(D:Df K mg "changed_at" eX ["thing","place","new"])(M:Mg mg t)(iO:bp P w K mg (gv P w) "kid_at" (2) ["thing","number"] (sV t.cb))(bF:bp P w K mg bE "kids_of" (1) ["thing"] eS)(dU:bp P w K mg bE "rebuilt" (1) ["thing","kids"] iN)(iV:bp P w K mg (gv P w) "changed_at" (n+3) ["thing","place","new"] (Kq t.cb n)):bp P w K mg (gv P w) "changed_at" (n+4) ["thing","place","new"] (Kq t.cb (n+1)):=by
 refine D.Sf iw (λvs H Q E h=>?_) (λbase f cS A outer s H vs Q E m h=>?_);·obtain⟨d,v,pl,pv,e,F,rfl,_⟩:=h;rfl
 obtain⟨d,v,pl,pv,e,F,rfl,r,wf,rp,U,hn,q,T⟩:=h;obtain⟨x,ps,k,rfl,NC,R⟩:=kZ wf;obtain⟨a,ws,rfl,ha,W⟩:=id rp;have S:=W.length;rw[dI]at S;refine⟨_,(ai (ba (aI bR (bj bC rfl M.gQ eG (ae (pv 1) ag)) ah (aQ _)) (aj (ay (pv 2))) aO) (ai (aF (i:=3) iw.nd rfl (bY rfl) (aJ iO m.m rfl dN (ae (pv 0) (ae (aP aR (pv 1) ah (λ_ _=>rfl)) ag)))) (ai (aF (i:=4) iw.nd rfl (bY rfl) (aJ bF m.m rfl aK (ae (pv 0) ag))) (ai (G0 (aJ iV m.m rfl dN (ae (pv 3) (ae (jS Jl (pv 1) (fF ah) dz) (ae (pv 2) ag)))) (Ob (pv 4) (aP aR (pv 1) ah (λ_ _=>rfl)) set_list)) (aj (ay (aJ dU m.m rfl aK (ae (pv 0) (ae (pv 4) ag))))))))),?_⟩;try dsimp only[gu,cH]
 refine S7 ?_;intro _ _ _ _ _;refine⟨_,rfl,a,_,rfl, .inr (bS.of ha),rfl,_,rfl,?_⟩;refine aY (λc=>?_) (λc=>?_);·have c:V.int ((ws.length:Nat):Int)=V.int 0:=of_decide_eq_true c;injection c with c;have hp:pl=[]:=List.length_eq_zero_iff.mp (by lia);subst hp;exact⟨_,rfl,q F H (aM.refl H) rfl U⟩
 have xP:pl≠[]:=λz=>c (by subst z;have :ws.length=0:=S;rw[this];exact decide_eq_true rfl);obtain⟨i,is,rfl⟩:∃i is,pl=i::is:=by cases pl with|nil=>exact absurd rfl xP|cons i is=>exact⟨i,is,rfl⟩
 obtain⟨u0,B,rfl,I,aeE⟩:=W;have I:u0=V.int i:=I;subst I;have O:lP (V.int i::B) 0=some (.int i):=aE (j:=0) rfl;refine⟨_,rfl,_,rfl,a,_,_,_,rfl,rfl,bS.of ha,O,_,v,i,rfl,r,wf,λp u N s1 b ru=>?_,λN s1 b=>T N s1 (iQ b)⟩;obtain⟨i0,hx,hp⟩:=kO b;refine⟨_,rfl,x,ps,v,rfl,r.mono s1,R,λo us H2 LK s2 h2 J=>?_⟩;have l2:=J.length;have hk:az x ps=ps:=by unfold az;rw[hx];rfl
 rw[hk]at J l2;have X:=s1.trans s2;refine⟨_,rfl,_,rfl,_,rfl,a,_,rfl,X _ _ ha,λb1 H3 l h3=>?_⟩;have h3:H3 b1=some (.tup B):=by have z:=oz (V.int i::B) 1;rw[show((1:Nat):Int)=1 from rfl]at z;rw[z]at h3;exact h3
 have y:=X.trans l;refine⟨_,rfl,p,u,is, .ref b1,e,F,rfl,ru.mono (s2.trans l),nc wf b,⟨b1,B,rfl,h3,aeE.mono y⟩,U.mono y,(by rw[cF]at hn;lia),λu2 C g G r4=>?_,λC g G=>T C (y.trans g) (by rw[fi b];exact G)⟩;have hl:i.toNat<us.length:=by have :=(List.getElem?_eq_some_iff.mp hp).1;lia
 have Y:=y.trans g;refine⟨_,rfl,_,rfl,a,_,_,_,rfl,rfl,bS.of (Y _ _ ha),O,o,us,_,i.toNat,rfl,rfl,(l.trans g) _ _ h2,?_,?_⟩;·unfold V0;rw[if_pos (by lia),if_pos (by lia)]
 have h24:=(l.trans g) _ _ h2;have hf:H o=none:=s1.free LK;have Z:aM H (upd C o (.lst (us.set i.toNat u2))):=d_ Y hf;refine⟨_,rfl,_,rfl,x,ps,ps.set i.toNat (putD p is e),v,o,_,rfl,r.mono Z,ak,(DU i.toNat (J.mono (l.trans g)) r4).gX h24,(by rw[List.length_set];exact R),λu5 H6 s6 L=>?_⟩;refine q u5 H6 (Z.trans s6) (by rw[fi b];exact G) ?_;rw[xo b];have ae7:ps.set i.toNat (putD p is e)≠[]:=λz=>by have :=congrArg List.length z;rw[List.length_set]at this;have :ps.length=0:=this;lia
 unfold cB at L;rw[if_neg ae7]at L;exact L
theorem ma(D:Df K mg "changed_at" eX ["thing","place","new"])(M:Mg mg t)(a:bp P w K mg (gv P w) "kid_at" (2) ["thing","number"] (sV t.cb))(b:bp P w K mg bE "kids_of" (1) ["thing"] eS)(c:bp P w K mg bE "rebuilt" (1) ["thing","kids"] iN):∀n:Nat,bp P w K mg (gv P w) "changed_at" (n+3) ["thing","place","new"] (Kq t.cb n)|0=>bp.never D λvs H Q E⟨d,v,pl,pv,e,f,_,_,_,_,_,h,_⟩=>absurd h (Nat.not_lt_zero _)|n+1=>zB D M a b c (ma D M a b c n)
def Vz(C G:Addr)(n:Nat):Sp:=λvs H Q E=>∃(d:D)(v:V)(pl:List Int)(pv:V)(e:D)(a:V),vs=[v,pv,a]/\Rep H d v/\Wf d/\Rep H (Su pl) pv/\Rep H e a/\pl.length<100/\((goto d pl).isSome=true->Rz (putD d pl e) n)/\(∀(u:V)(H':Hp),aM H H'->(goto d pl).isSome=true->(dw (putD d pl e)||eI (putD d pl e))=false->Rep H' (putD d pl e) u->Q u H')/\(∀H',aM H H'->goto d pl=none->E (.ref C) none H')/\(∀H',aM H H'->(goto d pl).isSome=true->(dw (putD d pl e)||eI (putD d pl e))=true->E (.ref G) none H')
theorem FY:aT ["thing","place","new"] ["thing","place","new"] (ar kL):=⟨rfl,rfl,rfl,by decide+kernel,rfl,by decide+kernel,by decide+kernel⟩
theorem Mq{n:Nat}(D:Df K mg "with_at" kL ["thing","place","new"])(M:Mg mg t)(hn:99<=n)(m:bp P w K mg (gv P w) "changed_at" (103) ["thing","place","new"] (Kq t.cb 100))(l:bp P w K mg (gv P w) "bounded" (n+4) ["thing"] (pA t.cx n)):bp P w K mg (gv P w) "with_at" (n+5) ["thing","place","new"] (Vz t.cb t.cx n):=by
 refine D.Sf FY (λvs H Q E h=>?_) (λbase f cS A outer s H vs Q E j h=>?_);·obtain⟨d,v,pl,pw,e,i,rfl,_⟩:=h;rfl
 obtain⟨d,v,pl,pw,e,i,rfl,r,wf,y,x,hl,rz,q,o,p⟩:=h;refine⟨_,(aj (ay (aJ l j.m rfl dN (ae (aJ m j.m rfl dN (ae (pv 0) (ae (pv 1) (ae (pv 2) ag)))) ag)))),?_⟩;try dsimp only[gu,z]
 refine⟨_,rfl,_,rfl,_,rfl,d,v,pl,pw,e,i,rfl,r,wf,y,x,hl,λu g s1 a k=>?_,λg s1 a=>o g s1 a⟩;exact⟨_,u,rfl,k,rz a,λb s2 c=>q u b (s1.trans s2) a c (k.mono s2),λb s2 c=>p b (s1.trans s2) a c⟩
end K23
end
section
namespace L3
open PySem PySem.Spec PyProof.Rows L2 KM
noncomputable abbrev jd(qual:Str):HO:= .zk (.code qual)
structure iR(ps cs:List Str)(scope:Scope):Prop where
 kind:scope.kind= .function
 co:scope.isCoroutine=false
 gen:scope.isGenerator=false
 oP:∀x∈scope.names,x.2≠ .cell
 par:∀x∈ps,scope.names.lookup x=some .local
 nd:(ps++cs).Nodup
 free:∀x∈cs,scope.names.lookup x=some .free
 all:∀x,scope.names.lookup x=some .free->x∈cs
structure yI(h:Heap)(f c:Addr)(name qual:Str)(params:Arguments)(body:List Stmt)(scope:Scope)(cs:List Str)(ws:List V)(cl:List (Str×Addr))(doc pm ct:Value):Prop where
 fo:h.get? f=some {cls:= .type "function",data:= .func (PySem.W.fnX name qual params body scope cl .none .none doc pm none (.ref c) ct)}
 inj:∀x y a,cl.lookup x=some a->cl.lookup y=some a->x=y
 own:∀x a,cl.lookup x=some a->x∈cs
 cell:∀(i:Nat)(x:Str),cs[i]?=some x->∃(v:V)(a:Addr)(u:Value),ws[i]?=some v/\cl.lookup x=some a/\RelV v u/\h.IsCell a (some u)
 len:ws.length=cs.length
section
variable{h h':Heap}{f c:Addr}{name qual:Str}{params:Arguments}{body:List Stmt}{scope:Scope}{cs:List Str}{ws:List V}{cl:List (Str×Addr)}{doc pm ct:Value}
theorem yI.keeps(C:yI h f c name qual params body scope cs ws cl doc pm ct)(k:∀b o,h.get? b=some o->h'.get? b=some o):yI h' f c name qual params body scope cs ws cl doc pm ct:=⟨k _ _ C.fo,C.inj,C.own,λi x e=>let⟨v,a,u,h1,h2,h3,o,h4,h5⟩:=C.cell i x e;⟨v,a,u,h1,h2,h3,o,k _ _ h4,h5⟩,C.len⟩
end
noncomputable abbrev l7(qual:Str)(scope:Scope)(L f c:Addr)(cl:List (Str×Addr)):Env:=PySem.W.envX qual scope L f (.ref c) cl
noncomputable def Fy(CX:oJ)(P:Program)(w:World)(K:PySem.W.Frag)(mg:Str->Option Value)(base:Heap)(N:List Str)(qual:Str)(scope:Scope)(f c:Addr)(cl:List (Str×Addr))(A:Around)(outer:List Env)(s:Shared)(H:Hp)(E:XK):Cx where prog:=P;w:=w;K:=K;mg:=mg;base:=base;A:=A.deeper (l7 qual scope s.heap.objs.size f c cl);N:=N;cC:=s;H₀:=H;env:=l7 qual scope s.heap.objs.size f c cl;outer:=outer;stack:=l7 qual scope s.heap.objs.size f c cl::outer;ex:=[];calm:=true;fn:=λ_=>false;pn:=[];xe:=λe s'=>wpAny (model P w) (A.deeper (l7 qual scope s.heap.objs.size f c cl)) (leaving (l7 qual scope s.heap.objs.size f c cl) e) (λ_ a=>CX A.handled outer H s E e a) (λe' a=>CX A.handled outer H s E e' a) s'
theorem za{a:Type}:∀{l:List (Str×a)}{x:Str}{v:a},(l.map (·.1)).Nodup->(x,v)∈l->l.lookup x=some v
 |[],_,_,_,h=>by cases h
 |(y,w)::l,x,v,nd,h=>by
  rw[d7,List.nodup_cons]at nd;rw[n9];rcases List.mem_cons.mp h with e|h;·cases e;simp
  ·have b:x≠y:=λz=>nd.1 (by rw[<-z];exact List.mem_map.mpr ⟨(x,v),h,rfl⟩);have :(x==y)=false:=by simpa using b
   rw[this];exact za nd.2 h
theorem AD:∀{ps:List Str}(us:List Value),ps.Nodup->((ps.zip us).map (·.1)).Nodup|[],us,_=>by simp|p::ps,[],_=>by simp|p::ps,u::us,nd=>by rw[List.nodup_cons]at nd;rw[List.zip_cons_cons,d7,List.nodup_cons];refine⟨λh=>nd.1 ?_,AD us nd.2⟩;obtain⟨⟨a,b⟩,hm,e⟩:=List.mem_map.mp h;cases e;exact(List.of_mem_zip hm).1
theorem N0{ps:List Str}{us:List Value}(nd:ps.Nodup){i:Nat}{x:Str}{u:Value}(h1:ps[i]?=some x)(h2:us[i]?=some u):(ps.zip us).reverse.lookup x=some u:=by have hm:(x,u)∈(ps.zip us).reverse:=List.mem_reverse.mpr (zK (i:=i) (by rw[List.getElem?_zip_eq_some];exact⟨h1,h2⟩));refine za ?_ hm;have a:((ps.zip us).map (·.1)).Nodup:=AD us nd;rw[List.map_reverse];exact(List.reverse_perm _).nodup_iff.mpr a
theorem Um{CX:oJ}{P:Program}{w:World}{K:PySem.W.Frag}{mg:Str->Option Value}{base:Heap}{ps cs:List Str}{name qual:Str}{params:Arguments}{body:List Stmt}{scope:Scope}{f c:Addr}{cl:List (Str×Addr)}{doc pm ct:Value}{A:Around}{outer:List Env}{s:Shared}{H:Hp}{E:XK}{us:List Value}{vs ws:List V}{h1:Heap}{t1:Nat}(S:iR ps cs scope)(e0:Fi P w K mg base A outer s H)(C:yI base f c name qual params body scope cs ws cl doc pm ct)(hl:vs.length=ps.length)(r:Vals vs us)(m:h1.Ns s.heap.objs.size (λx=>(ps.zip us).reverse.lookup x))(h:∀b o,s.heap.get? b=some o->h1.get? b=some o):Inv (Fy CX P w K mg base (ps++cs) qual scope f c cl A outer s H E) [] (vs.map some++ws.map some) H {s with heap:=h1,toks:=t1}:=by
 have l:∀b:Addr,b∉(Fy CX P w K mg base (ps++cs) qual scope f c cl A outer s H E).ex:=λb z=>absurd (show b∈([]:List Addr)from z) (by simp);have cellOf:∀x a,cl.lookup x=some a->∃u,base.IsCell a (some u):=λx a e=>by obtain⟨i,hi⟩:=List.mem_iff_getElem?.mp (C.own x a e);obtain⟨v,B,u,_,e2,_,e4⟩:=C.cell i x hi;rw[e]at e2;cases e2;exact⟨u,e4⟩
 have up:∀{a:Addr}{v:Option Value},base.IsCell a v->h1.IsCell a v:=λ⟨o,j,hd⟩=>⟨o,h _ _ (e0.bs _ _ j).1,hd⟩;refine⟨⟨e0.mod,S.kind,rfl,rfl,bK _,C.inj,λy g=>?_,λy c z=>(by cases z),λ_=>e0.hdl.toP,Around.frames_deeper e0.frames, .inr ⟨rfl,rfl⟩,λb z=>absurd z (l b),e0.bs,e0.FD,λb _ _=>l b,λb z=>absurd z (l b),e0.jw,e0.Sh⟩,rfl,e0.bare,Un.kept h,⟨_,m,λi y v d h2 h3=>?_⟩,λy a e=>?_,e0.b9.fresh (bK _),λy a e=>?_,λp hp=>absurd (show p∈([]:List (Addr×Obj))from hp) (by simp),e0.b9.kept h,?_⟩
 ·have g:scope.names.lookup y=some .cell\/scope.names.lookup y=some .free:=g;rcases g with g|g;·exact absurd rfl (S.oP _ (PySem.mem_of_lookup g))
  ·obtain⟨i,hi⟩:=List.mem_iff_getElem?.mp (S.all y g);obtain⟨v,a,u,_,e2,_⟩:=C.cell i y hi;exact⟨a,e2⟩
 ·have d:(ps++cs)[i]?=some y:=d;by_cases hi:i<ps.length;·rw[Fx hi]at d;rw[Fx (by rw[dI];lia),List.getElem?_map]at h2;obtain⟨t,k,e⟩:=Option.map_eq_some_iff.mp h2;cases e;obtain⟨u,n,q⟩:=r.get k;have nd:=(List.nodup_append.mp S.nd).1;exact⟨u,q, .inl ⟨S.par y (zK d),N0 nd d n⟩⟩
  ·rw[List.getElem?_append_right (by lia)]at d;rw[List.getElem?_append_right (by rw[dI];lia),dI,hl,List.getElem?_map]at h2;obtain⟨t,k,e⟩:=Option.map_eq_some_iff.mp h2;cases e;obtain⟨D,a,u,e1,e2,e3,e4⟩:=C.cell _ y d;rw[k]at e1;cases e1;exact⟨u,e3, .inr ⟨.inr (S.free y (zK d)),a,e2,up e4⟩⟩
 ·obtain⟨u,e4⟩:=cellOf y a e;exact⟨_,up e4⟩
 ·obtain⟨u,o,j,_⟩:=cellOf y a e;exact(e0.bs _ _ j).2
 ·show(vs.map some++ws.map some).length=(ps++cs).length;rw[iJ,iJ,dI,dI,hl,C.len]
theorem UR{CX:oJ}{P:Program}{w:World}{K:PySem.W.Frag}{mg:Str->Option Value}{base:Heap}{k:Nat}{ps cs:List Str}{name qual:Str}{params:Arguments}{body:List Stmt}{scope:Scope}{f c:Addr}{cl:List (Str×Addr)}{doc pm ct:Value}{A:Around}{outer:List Env}{s:Shared}{H:Hp}{Q:VK}{E:XK}{us:List Value}{vs ws:List V}(S:iR ps cs scope)(e0:Fi P w K mg base A outer s H)(h:da (k+1) A)(C:yI base f c name qual params body scope cs ws cl doc pm ct)(hc:H c=some (jd qual))(hl:vs.length=ps.length)(r:Vals vs us)(hb:BindsTo s (PySem.W.fnX name qual params body scope cl .none .none doc pm none (.ref c) ct) ⟨us,[]⟩ (ps.zip us))(i:da k (A.deeper (l7 qual scope s.heap.objs.size f c cl))->∃t,iz (Fy CX P w K mg base (ps++cs) qual scope f c cl A outer s H E) body t/\t {nx:=λ_ H'=>Q .aW H',rt:=Q} (vs.map some++ws.map some) H):codeAny (model P w) A (.call (.ref f) ⟨us,[]⟩) (CR CX A.handled outer P w H s Q E) s:=by have p:s.heap.NoLimit:=e0.mod.nolimit.keeps λb o e=>(e0.bs b o e).1;have j:s.heap.CodeRec (.ref c) qual:=(show cI P w H s.heap c (jd qual)from e0.b9 c _ hc);refine codeAny_call_def (fd:=PySem.W.fnX name qual params body scope cl .none .none doc pm none (.ref c) ct) (body:=body) (binds:=ps.zip us) h.depth (e0.bs _ _ C.fo).1 rfl p j rfl hb S.oP (λy n=>S.par y.1 (List.of_mem_zip n).1) (λh₁ m l=>?_) S.co S.gen S.kind;obtain⟨t,ht,hq⟩:=i (h.deeper _);have I:=Um (CX:=CX) (E:=E) (t1:=s.toks+(ps.zip us).length) S e0 C hl r m l;refine gm (ht [] _ _ H _ I hq) (λfl s' a=>?_) λe s' a=>a;have fin:∀{d:L2.St}{H':Hp}{v:V}{u:Value},Inv (Fy CX P w K mg base (ps++cs) qual scope f c cl A outer s H E) [] d H' s'->RelV v u->Q v H'->CE outer P w H s Q u s':=λ{d H' v u}J g q=>⟨v,H',J.os,J.bare,J.base,J.b9,g,q⟩;cases fl with|ret u=>obtain⟨v,d,H',J,g,q⟩:=a;exact fin J g q|next=>obtain⟨d,H',J,q⟩:=a;exact fin (v:=V.aW) (u:=Value.none) J rfl q|brk=>obtain⟨_,_,_,q⟩:=a;exact False.elim q|cont=>obtain⟨_,_,_,q⟩:=a;exact False.elim q
def jI(H:Hp)(T:Addr)(qual:Str)(a:Pos):Prop:=H T=some (.zk (.tab qual (rawInt a.line) (rawInt a.col)))
theorem jI.mono{H H':Hp}{T:Addr}{qual:Str}{a:Pos}(x:jI H T qual a)(s:aM H H'):jI H' T qual a:=s _ _ x
def JW(K:PySem.W.Frag)(a T:Addr):Prop:=PySem.W.codeHdIn K a T=true
theorem qH{K:PySem.W.Frag}{mg:Str->Option Value}{base h:Heap}{T:Addr}{ps:Array Value}(M:Mod K mg base)(k:∀b o,base.get? b=some o->h.get? b=some o)(d:h.get? T=some (PySem.W.tabObj ps)):mainGlobals≠T/\h.BuiltinsAt mg T:=by
 obtain⟨bm,ob,b1,b2,b3,c,f,a⟩:=M.bm;obtain⟨o,es,ep,e,hd,_⟩:=M.glob;have e:=k _ _ e;have b3:=k _ _ b3;refine⟨λq=>?_,bm,ob,b1,b2,λq=>?_,λq=>?_,b3,c,f,a⟩;·rw[q,d]at e;cases e;cases hd
 ·rw[q,e]at b3;cases b3;rw[hd]at a;cases a
 ·rw[q,d]at b3;cases b3;cases c
noncomputable abbrev Bu(X:Cx)(f:Addr)(fo:Obj):Cx:={X with pn:=(f,fo)::X.pn}
section
variable{X:Cx}{pins:List (Addr×Obj)}{σ:L2.St}{H:Hp}{s:Shared}{f:Addr}{fo:Obj}
theorem Q_{base:Heap}{pn b:List (Addr×Obj)}{A:Around}(h:HBp base pn A)(c:∀q∈pn,q∈b):HBp base b A:=by
 rcases h with h|⟨a,oe,vs,e1,e2,e3⟩;·exact .inl h
 ·exact .inr ⟨a,oe,vs,e1,e2.imp id (c _),e3⟩
theorem adx(ok:X.Ok):(Bu X f fo).Ok:=⟨ok.mod,ok.kind,ok.glob,ok.blt,ok.above,ok.inj,ok.has,ok.UB,λh=>Q_ (ok.hd h) λq hq=>dW _ hq,ok.frames,ok.YA,ok.YF,ok.bs,ok.FD,ok.zq,ok.A0,ok.jw,ok.Sh⟩
theorem abv(I:Inv X pins σ H s)(e:s.heap.get? f=some fo)(a:H f=none)(b:f≠X.env.locals)(c:f∉X.fs)(d:∀v,fo.data≠ .cell v):Inv (Bu X f fo) pins σ H s:=by
 refine⟨adx I.ok,I.os,I.bare,I.base,I.loc,I.cell,I.free,I.fe,λp hp=>?_,I.b9,I.len⟩;rcases List.mem_cons.mp (show p∈(f,fo)::(X.pn++pins)from hp)with z|z;·rw[z];exact⟨e,a,b,c,d⟩
 ·exact I.pin p z
theorem yP(ok:X.Ok)(I:Inv (Bu X f fo) pins σ H s):Inv X pins σ H s:=⟨ok,I.os,I.bare,I.base,I.loc,I.cell,I.free,I.fe,λp hp=>I.pin p (dW _ hp),I.b9,I.len⟩
theorem abS(ok:X.Ok){D:Ends}{fl:Flow}(h:SP (Bu X f fo) pins D fl s):SP X pins D fl s:=by cases fl with|next=>obtain⟨a,H',I,q⟩:=h;exact⟨a,H',yP ok I,q⟩|brk=>obtain⟨a,H',I,q⟩:=h;exact⟨a,H',yP ok I,q⟩|cont=>obtain⟨a,H',I,q⟩:=h;exact⟨a,H',yP ok I,q⟩|ret u=>obtain⟨v,a,H',I,r,q⟩:=h;exact⟨v,a,H',yP ok I,r,q⟩
end
noncomputable abbrev oY(name qual:Str)(params:Arguments)(body:List Stmt)(scope:Scope)(cl:List (Str×Addr))(doc pm:Value)(c:Addr)(ct:Value):Obj:={cls:= .type "function",data:= .func (PySem.W.fnX name qual params body scope cl .none .none doc pm none (.ref c) ct)}
noncomputable def afo(i:Nat)(T:Addr)(qual:Str)(a:Pos)(t:Addr->Addr->Value->Value->Value->TS):TS:=λD σ H=>jI H T qual a/\∀(f c:Addr)(doc pm ct:Value)(H':Hp),aM H H'->H' c=some (jd qual)->t f c doc pm ct D (σ.set i (some (.ref f))) H'
theorem adu{fs ex:List Addr}{H:Hp}{h h':Heap}{T c:Addr}{ps:UX}{o:HO}(d:H T=some (.zk ps))(hc:H c=none)(f:h.objs.size<=c)(k:∀b u,b≠T->h.get? b=some u->h'.get? b=some u)(e:∃u,h'.get? T=some u):Un fs ex H (upd H c o) h h':=by
 have a:∀b,H b=none->b≠T:=λb n z=>by rw[z,d]at n;cases n
 refine⟨λb u q n _ _=>k b u (a b n) q,λb u q n _ _=>⟨u.slots,k b u (a b n) q⟩,λb u q n _=>?_,λb u q _=>?_,λb xs q=>?_,λb u xs q=>?_,λb g q=>?_⟩;·rw[aZ (eg (gK (bT q) f))];exact n
 ·by_cases z:b=T;·rw[z];exact e
  ·exact⟨u,k b u z q⟩
 all_goals rw[aZ (aX q hc)];exact q
theorem Kb{X:Cx}{i:Nat}{r T:Addr}{name qual:Str}{params:Arguments}{body:List Stmt}{scope:Scope}{g:Pos}{rest:List Stmt}{cl:List (Str×Addr)}{t:Addr->Addr->Value->Value->Value->TS}(Q:JW X.K r T)(E:X.env.code= .ref r)(R:X.N.Nodup)(hi:X.N[i]?=some name)(M:X.env.scope.names.lookup name=some .local)(hq:qualnameIn X.env name name=qual)(C:closureFor scope X.env=pure cl)(hr:∀(f c:Addr)(doc pm ct:Value),iz (Bu X f (oY name qual params body scope cl doc pm c ct)) rest (t f c doc pm ct))(W:params.defaults=[]:=by rfl)(Z:params.kw_defaults=[]:=by rfl)(ha:annTrees params none X.env=[]:=by rfl):iz X (.FunctionDef name params body [] none [] scope none name g::rest) (afo i T qual g t):=by
 intro pins s σ H D I h;obtain⟨l,h⟩:=h;have N:∀(f c:Addr)(doc pm ct:Value)(H':Hp)(s1:Shared),Inv X pins σ H' s1->s1.heap.get? f=some (oY name qual params body scope cl doc pm c ct)->H' f=none->f≠X.env.locals->f∉X.fs->aM H H'->H' c=some (jd qual)->wpAny (model X.prog X.w) X.A (storeName X.env name (.ref f)) (λ_ s2=>wpAny (model X.prog X.w) X.A (execs rest X.env) (SP X pins D) X.xe s2) X.xe s1:=λf c doc pm ct H' s1 k e1 e2 e3 e4 sx hc=>by have O:=abv (fo:=oY name qual params body scope cl doc pm c ct) k e1 e2 e3 e4 (λv z=>by cases z);refine iL (X:=Bu X f (oY name qual params body scope cl doc pm c ct)) (i:=i) (v:= .ref f) O R hi (.inl M) rfl (λs2 P=>?_) (.inr M);exact gm (hr f c doc pm ct pins s2 _ H' D P (h f c doc pm ct H' sx hc)) (λfl s3 q=>abS I.ok q) λ_ _ z=>z
 have KX:=I.kI;have F:s.heap.Ns mainGlobals X.mg:=I.mod.glob.keeps I.bk;obtain⟨m,⟨oL,esL,epL,hoL,_⟩,_⟩:=id I.loc;have J:X.env.locals<s.heap.objs.size:=bT hoL;have A:∀b:Addr,s.heap.objs.size<=b->b∉X.fs:=λb hb hm=>by obtain⟨_,o',ho,_⟩:=I.jw.mem hm;exact absurd (bT ho) (Nat.not_lt.mpr hb)
 have hd:PySem.W.CodeHd s.heap r T:=PySem.W.codeHd_of_K KX Q;refine wpAny_execs_cons (PySem.W.nestDef_K W Z ha ?_);rw[hq];rcases(show cI X.prog X.w H s.heap T (.zk (.tab qual (rawInt g.line) (rawInt g.col)))from I.b9 T _ l)with d|⟨c,d,hc⟩
 ·have d:s.heap.get? T=some (PySem.W.tabObj #[]):=d;obtain⟨L,x⟩:=qH I.mod I.bk d;refine PySem.W.makeFunction_K C I.ok.glob F E hd d trivial rfl L x λa j doc h' tk hx1 y K afh S=>?_;have p:H a=none:=I.b9.fresh y;have G:∀b u,b≠T->s.heap.get? b=some u->(h'.push (PySem.W.fnMade name qual params body scope cl doc ((X.mg "__name__").getD .none) a j)).get? b=some u:=λb u n e=>b_ _ (hx1 b u n e);have B:(h'.push (PySem.W.fnMade name qual params body scope cl doc ((X.mg "__name__").getD .none) a j)).get? T=some (PySem.W.tabObj (#[]++#[rawInt g.line,rawInt g.col, .ref a])):=b_ _ S;have nTc:T≠a:=aX l p;have V:=afh.push (PySem.W.fnMade name qual params body scope cl doc ((X.mg "__name__").getD .none) a j);have Sv:jN X.prog X.w (upd H a (jd qual)) (h'.push (PySem.W.fnMade name qual params body scope cl doc ((X.mg "__name__").getD .none) a j)):=λb u e=>by
   by_cases hb:b=a;·rw[hb,ak]at e;cases e;rw[hb];exact V
   ·rw[aZ hb]at e;by_cases w:b=T;·rw[w,l]at e;cases e;rw[w];exact .inr ⟨a,B,ak⟩
    ·have nT2:∀c2,H c2=some (.own b)->c2≠T:=λc2 q z=>by rw[z,l]at q;cases q
     refine(I.b9 b u e).mP (λc2 o U q=>G c2 o ?_ q) (λc2 q=>?_) λc2 xs q=>?_
     ·rcases U with rfl|q2;·exact w
      ·exact nT2 _ q2
     ·rw[aZ (aX q p)];exact q
     ·rw[aZ (aX q p)];exact q
  have k:=I.un (t':=tk) (adu (o:=jd qual) l p y G ⟨_,B⟩) Sv;have hsz:s.heap.objs.size<=h'.objs.size:=c8 y (Nat.le_of_lt K);refine N h'.objs.size a _ _ _ _ _ k (gT _ rfl) ?_ (Nat.ne_of_gt (gK J hsz)) (A _ hsz) (λb o e=>?_) ak;·rw[aZ (Nat.ne_of_gt K)];exact I.b9.fresh hsz
  ·rw[aZ (aX e p)];exact e
 ·have d:s.heap.get? T=some (PySem.W.tabObj #[rawInt g.line,rawInt g.col, .ref c]):=d;obtain⟨L,x⟩:=qH I.mod I.bk d;refine PySem.W.makeFunction_hit (cv:= .ref c) C I.ok.glob F E hd d ?_ ?_ x λj doc h' tk Y hsz=>?_;·simp[TriplesOk,rawInt]
  ·simp[codeAmong,rawInt]
  have k:=I.kept (h':=h'.push {cls:= .type "function",data:= .func (PySem.W.fnX name qual params body scope cl .none .none doc ((X.mg "__name__").getD .none) none (.ref c) j)}) (t':=tk) λb u e=>b_ _ (Y b u e);exact N h'.objs.size c _ _ _ _ _ k (gT _ rfl) (I.b9.fresh hsz) (Nat.ne_of_gt (gK J hsz)) (A _ hsz) (λb o e=>e) hc
noncomputable def mL(P:Program)(w:World)(K:PySem.W.Frag)(mg:Str->Option Value)(CX:oJ)(x:Str)(k:Nat)(ps:List Str)(sp:Heap->Sp):Prop:=∃f fd,(∀base,oN P w K mg base CX k f fd ps (sp base))/\mg x=some (.ref f)/\PySem.W.keepIn K (.ref f)=true/\Binds K fd ps []
section
variable{P:Program}{w:World}{K:PySem.W.Frag}{mg:Str->Option Value}
theorem Df.okB{x:Str}{st:Stmt}{N ps:List Str}{k:Nat}{sp:Heap->Sp}(D:Df K mg x st ps)(S:aT N ps (ar st))(len:∀base vs H Q E,sp base vs H Q E->vs.length=ps.length)(a:∀(base:Heap)(f:Addr)(cS:Value)(A:Around)(outer:List Env)(s:Shared)(H:Hp)(vs:List V)(Q:VK)(E:XK),da k (A.deeper (envOfC x (ar st) s.heap.objs.size f cS))->sp base vs H Q E->∃t,iz (fh bE P w K mg base N x (ar st) f cS A outer s H E).QS (cW st) t/\t {nx:=λ_ H'=>Q .aW H',rt:=Q} (start N vs) H):mL P w K mg bE x (k+1) ps sp:=by obtain⟨f,fd,F,m,b⟩:=D;exact⟨f,fd,λbase=>F.ok S (len base) (a base f),m,F.kp,b⟩
theorem mL.never{x:Str}{st:Stmt}{ps:List Str}{sp:Heap->Sp}{k:Nat}{CX:oJ}(D:Df K mg x st ps)(no:∀base vs H Q E,¬sp base vs H Q E):mL P w K mg CX x k ps sp:=by obtain⟨f,fd,F,m,b⟩:=D;exact⟨f,fd,λbase=>⟨λvs H Q E h=>absurd h (no base vs H Q E),λA outer s H args us vs Q E _ _ _ _ h=>absurd h (no base vs H Q E)⟩,m,F.kp,b⟩
end
structure FZ(X:Cx)(σ:L2.St)(b':Heap):Prop where
 old:∀b o,X.base.get? b=some o->b'.get? b=some o
 pin:∀q∈X.pn,b'.get? q.1=some q.2
 cell:∀(i:Nat)(x:Str)(v:V),X.N[i]?=some x->σ[i]?=some (some v)->X.env.kindOf x=some .cell->X.fn x=true->∃c u,X.env.cells.lookup x=some c/\RelV v u/\b'.IsCell c (some u)
theorem B_{X:Cx}{pins:List (Addr×Obj)}{σ:L2.St}{H:Hp}{s:Shared}(I:Inv X pins σ H s):FZ X σ (zu s.heap H (jQ X.stack)):=by
 have g:∀b o,X.base.get? b=some o->b∉jQ X.stack:=λb o e z=>by
  rcases List.mem_cons.mp (I.gD b z)with z|z;·have :=bT e;rw[z]at this;exact absurd this (Nat.not_lt.mpr (c8 I.ok.FD I.ok.above))
  ·exact I.ok.X3 e z
 refine⟨λb o e=>ko (I.bs b o e).1 (I.bs b o e).2 (g b o e),λq hq=>?_,λi x v h1 h2 h3 h4=>?_⟩
 ·obtain⟨q1,q2,q3,q4,_⟩:=I.pin q (qP _ hq);refine ko q1 q2 λz=>?_;rcases List.mem_cons.mp (I.gD _ z)with z|z;·exact q3 z
  ·exact q4 z
 ·obtain⟨m,hn,hl⟩:=I.loc;obtain⟨u,r,l⟩:=hl i x v h1 h2 (.inr (.inl h3));rcases l with⟨a,_⟩|⟨_,c,hc,o,d,hd⟩;·rw[h3]at a;cases a
  ·refine⟨c,u,hc,r,o,ko d (I.fe x c hc) λz=>?_,hd⟩;rcases List.mem_cons.mp (I.gD _ z)with z|z;·exact I.Uh x c hc z
   ·obtain⟨_,o',f,_⟩:=I.ok.jw.mem z;exact absurd (bT f) (Nat.not_lt.mpr (I.ok.UB x c h4 hc))
noncomputable def Zw(X:Cx)(sp:Heap->Sp)(E:XK)(t:TA):TE:=λσ H Q=>t σ H λvs a=>∀b',FZ X σ b'->sp b' vs a Q E
theorem Oz{X:Cx}{CX:oJ}{x:Str}{k:Nat}{ps:List Str}{sp:Heap->Sp}{E:XK}{e:Expr}{es:List Expr}{t:TA}{p d:Pos}(F:mL X.prog X.w X.K X.mg CX x k ps sp)(o:da k X.A)(l:Gl X x)(v:Passes CX X E)(ha:PA X (e::es) t)(i:(x==("__debug__":Str))=false:=by decide)(j:starEach (e::es) X.env=(false,eval e X.env)::starEach es X.env:=by rfl)(n:(backTo d (starEach es X.env)).any (·.1)=false:=by rfl)(hc:X.calm=true:=by rfl):PE X (.Call (.Name x p) (e::es) [] d) (Zw X sp E t):=by
 obtain⟨f,fd,F,m,kp,b⟩:=F;intro pins s σ H Q I h;refine zT (jg I l m ?_ i);refine PySem.W.callWith_K (h₀:=X.base) I.ok.mod.Mt kp (bX (ha d pins s σ H _ I h) λus s1⟨vs,c,a,r,q⟩=>⟨a.kI,?_⟩) j n;have q:=q _ (B_ a);have hl:us.length=ps.length:=by rw[<-r.length];exact(F (zu s1.heap c (jQ X.stack))).len _ _ _ _ q
 have g:=b s1 us a.kI (by rw[kS];exact hl);rw[kS]at g;refine wpAny_call (codeAny_mono ((F _).run X.A X.stack s1 c ⟨us,[]⟩ us vs Q E o (O9 a hc) g r q) λw s' hq=>?_);cases w with|error e=>exact v pins σ c s1 e s' a hq|ok fl=>cases fl with|ret u=>exact a.after hq|next=>exact False.elim hq|brk=>exact False.elim hq|cont=>exact False.elim hq
noncomputable def oU(P:Program)(w:World)(K:PySem.W.Frag)(mg:Str->Option Value)(base:Heap)(k:Nat)(f:Addr)(sp:Sp):Prop:=PySem.W.FnAt f base/\∀(a:Heap),(∀b o,base.get? b=some o->a.get? b=some o)->∀(A:Around)(outer:List Env)(s:Shared)(H:Hp)(us:List Value)(vs:List V)(Q:VK),da k A->Fi P w K mg a A outer s H->Vals vs us->sp vs H Q E0->codeAny (model P w) A (.call (.ref f) ⟨us,[]⟩) (CR bE A.handled outer P w H s Q E0) s
theorem oU.up{P:Program}{w:World}{K:PySem.W.Frag}{mg:Str->Option Value}{base a:Heap}{k:Nat}{f:Addr}{sp:Sp}(C:oU P w K mg base k f sp)(c:∀b o,base.get? b=some o->a.get? b=some o):oU P w K mg a k f sp:=⟨let⟨oc,od,fd,sl,e⟩:=C.1;⟨oc,od,fd,sl,c _ _ e⟩,λd h=>C.2 d λb o e=>h b o (c b o e)⟩
noncomputable def Yu(i:Nat)(f:Addr)(sp:Sp)(t:TA):TE:=λσ H Q=>σ[i]?=some (some (.ref f))/\t σ H λvs a=>sp vs a Q E0
theorem OU{X:Cx}{x:Str}{k i:Nat}{f:Addr}{sp:Sp}{e:Expr}{es:List Expr}{t:TA}{p b:Pos}(C:oU X.prog X.w X.K X.mg X.base k f sp)(D:da k X.A)(n:X.N[i]?=some x)(F:Vis X.env.scope x)(ha:PA X (e::es) t)(w:(x==("__debug__":Str))=false:=by decide)(o:(x==("__classdict__":Str))=false:=by decide)(y:starEach (e::es) X.env=(false,eval e X.env)::starEach es X.env:=by rfl)(A:(backTo b (starEach es X.env)).any (·.1)=false:=by rfl)(hc:X.calm=true:=by rfl):PE X (.Call (.Name x p) (e::es) [] b) (Yu i f sp t):=by intro pins s σ H Q I h;obtain⟨G,h⟩:=h;refine zT (gm (RH (X:=X) (i:=i) n F w o pins s σ H (λv H'=>v= .ref f/\H'=H) I ⟨.ref f,G,rfl,rfl⟩) (λu s0 E=>?_) λ_ _ z=>z);obtain⟨v,l,c,L,rfl,rfl⟩:=E;cases(show u=Value.ref f from L);have d:∀{g:List (Addr×Obj)}{j:L2.St}{H':Hp}{s':Shared},Inv X g j H' s'->PySem.W.FnAt f s'.heap:=λ{g j H' s'}J=>let⟨oc,od,fd,sl,e⟩:=C.1;⟨oc,od,fd,sl,(J.bs _ _ e).1⟩;refine PySem.W.callWith_F (d c) (bX (ha b pins s0 σ l _ c h) λus s1⟨vs,m,a,r,q⟩=>⟨d a,?_⟩) y A;have B:=B_ a;refine wpAny_call (codeAny_mono (C.2 _ B.old X.A X.stack s1 m us vs Q D (O9 a hc) r q) λK s' hq=>?_);cases K with|error e=>exact hq.elim|ok fl=>cases fl with|ret u=>exact a.after hq|next=>exact False.elim hq|brk=>exact False.elim hq|cont=>exact False.elim hq
noncomputable abbrev Po:=List (Addr×Addr×UX)
structure TabsOk(K:PySem.W.Frag)(h:Heap)(ts:Po):Prop where
 emp:∀q∈ts,h.get? q.2.1=some (PySem.W.tabObj #[])
 hd:∀q∈ts,PySem.W.codeHdIn K q.1 q.2.1=true
 out:∀q∈ts,K.lookup q.2.1=none
 tab:∀q∈ts,∃x l c,q.2.2= .tab x l c
noncomputable def Z3(K:PySem.W.Frag)(a:Addr)(o:Obj)(xs:List V)(ts:Po):Hp:=λb=>if b=a/\K.lookup a=none then some (.FA o (.lst xs))else((ts.map (·.2)).lookup b).map HO.zk
theorem UE{K:PySem.W.Frag}{h:Heap}{c T:Addr}(X:K.In h)(e:PySem.W.codeHdIn K c T=true):isCodeTable h T:=by obtain⟨o,vs,f,a,fl,tg,b,n,d,e1,e2,e3,e4,_⟩:=PySem.W.codeHd_of_K X e;exact⟨c,o,vs,e1,e2,e3,e4⟩
theorem Du{a:Type}:∀{l:List (Addr×a)}{x:Addr}{v:a},l.lookup x=some v->(x,v)∈l
 |[],_,_,h=>by simp at h
 |(y,w)::l,x,v,h=>by
  rw[n9]at h;by_cases e:(x==y)=true;·rw[e]at h;have :=beq_iff_eq.mp e;subst this;cases h;exact d4
  ·rw[show(x==y)=false by simpa using e]at h;exact dW _ (Du h)
theorem OL{ts:Po}{b:Addr}{s:UX}(e:(ts.map (·.2)).lookup b=some s):∃q∈ts,q.2.1=b/\q.2.2=s:=by have :=Du e;obtain⟨q,hq,z⟩:=List.mem_map.mp this;exact⟨q,hq,by rw[z],by rw[z]⟩
theorem Nl{P:Program}{w:World}{K:PySem.W.Frag}{mg mb:Str->Option Value}{k:Nat}{fa a:Addr}{fd:FuncData}{x:Str}{sp:Sp}{f:Shared}{vs:List Value}{ns:List Int}{ts:Po}(KX:K.In f.heap)(I:f.heap.Ns mainGlobals mg)(hb:f.heap.Ns builtinsNs mb)(B:∀x:Str,x≠"__name__"->mb x=bootBuiltins x)(G:f.heap.NoLimit)(D:BmK mg f.heap)(E:f.gens=#[])(ha:f.heap.get? a=some {cls:= .type "list",data:= .seq vs.toArray})(hi:IntsAre vs ns)(hl:ns.length<=sizeLine)(J:da k callerA)(T:TabsOk K f.heap ts)(F:∀base:Heap,oN P w K mg base bE k fa fd [x] sp)(C:∀(s:Shared)(u:Value),BindsTo s fd ⟨[u],[]⟩ [(x,u)])(L:∀H:Hp,(∀q∈ts,(ts.map (·.2)).lookup q.2.1=some q.2.2->H q.2.1=some (.zk q.2.2))->bH K H a (ns.map V.int)->sp [.ref a] H (λv _=>v= .bl true) E0):codeAny (model P w) callerA (.call (.ref fa) ⟨[.ref a],[]⟩) (λr s'=>r= .ok (.ret (.bool true))/\OldK f.heap s'.heap/\s'.os=f.os/\AllBare s'.gens) f:=by
 have p:=Au hi;have M:=hi.length;let o:Obj:={cls:= .type "list",data:= .seq vs.toArray};let H:=Z3 K a o (ns.map V.int) ts;have R:∀q∈ts,q.2.1≠a:=λq hq z=>by have :=T.emp q hq;rw[z,ha]at this;cases this
 have HT:∀q∈ts,(ts.map (·.2)).lookup q.2.1=some q.2.2->H q.2.1=some (.zk q.2.2):=λq hq e=>by show(if q.2.1=a/\K.lookup a=none then _ else _)=_;rw[if_neg λz=>R q hq z.1,e];rfl
 have only:∀b u,H b=some u->(b=a/\K.lookup a=none/\u= .FA o (.lst (ns.map V.int)))\/∃q∈ts,q.2.1=b/\u= .zk q.2.2:=λb u e=>by
  have e:(if b=a/\K.lookup a=none then some (.FA o (.lst (ns.map V.int)))else((ts.map (·.2)).lookup b).map HO.zk)=some u:=e;by_cases hb:b=a/\K.lookup a=none;·rw[if_pos hb]at e;exact .inl ⟨hb.1,hb.2,(Option.some.inj e).symm⟩
  ·rw[if_neg hb]at e;obtain⟨s,e1,e2⟩:=Option.map_eq_some_iff.mp e;obtain⟨q,hq,U,W⟩:=OL e1;exact .inr ⟨q,hq,U,by rw[W,e2]⟩
 have objs:∀b u,H b=some u->(b=a)\/f.heap.get? b=some (PySem.W.tabObj #[]):=λb u e=>by
  rcases only b u e with⟨z,_⟩|⟨q,hq,z,_⟩;·exact .inl z
  ·exact .inr (by rw[<-z];exact T.emp q hq)
 have free:∀{b:Addr}{ob:Obj},f.heap.get? b=some ob->ob.data≠ .seq vs.toArray->ob.data≠ .fields #[]->H b=none:=λ{b ob}e O Q=>by
  cases q:H b with
   |none=>rfl
   |some u=>
    rcases objs b u q with z|z;·rw[z,ha]at e;cases e;exact absurd rfl O
    ·rw[e]at z;cases z;exact absurd rfl Q
 have j:∀{b:Addr}{m:Str->Option Value},f.heap.Ns b m->(B9 f.heap H).Ns b m:=λ{b m}⟨ob,es,ep,e,d,r⟩=>⟨ob,es,ep,mB e (free e (by rw[d];simp) (by rw[d];simp)),d,r⟩;have t:K.In (B9 f.heap H):=λb ob e=>mB (KX b ob e) (by
  cases q:H b with
   |none=>rfl
   |some u=>
    rcases only b u q with⟨z,Y,_⟩|⟨g,hq,z,_⟩;·rw[z,Y]at e;cases e
    ·rw[<-z,T.out g hq]at e;cases e);have b9:jN P w H f.heap:=λb u e=>by
  rcases only b u e with⟨z,_,rfl⟩|⟨q,hq,z,rfl⟩;·rw[z];exact⟨ha,by rw[dI];exact hl,vs,_,p,ha⟩
  ·obtain⟨X,l,c,ex⟩:=T.tab q hq;rw[ex];exact .inl (by rw[<-z];exact T.emp q hq)
 have A:bH K H a (ns.map V.int):=by cases i:K.lookup a with|none=>refine .inl (.inr ⟨o,?_⟩);show(if a=a/\K.lookup a=none then _ else _)=_;rw[if_pos ⟨rfl,i⟩]|some ob=>have e:=KX a ob i;rw[ha]at e;cases e;exact .inr ⟨_,vs.toArray,_,i,rfl,rfl,rfl,by rw[dq,M];exact hl,by simpa using p⟩
 have y:Mod K mg (B9 f.heap H):=⟨t,j I,⟨mb,j hb,B⟩,let⟨N,h1,h2⟩:=G;⟨N,j h1,h2⟩,let⟨bm,ob,e1,e2,e3,e4⟩:=D;⟨bm,ob,e1,e2,mB e3 (free e3 (by rw[e4.2.2];simp) (by rw[e4.2.2];simp)),e4⟩⟩;have e0:Fi P w K mg (B9 f.heap H) callerA [] f H:=⟨rfl,y,λb ob e=>LI e,Nat.le_of_eq (Ab _ _),trivial,λb hb=>absurd (show b∈([]:List Addr)from hb) (by simp),b9, .of_eq E, .inl rfl⟩;refine codeAny_mono ((F _).run callerA [] f H ⟨[.ref a],[]⟩ [.ref a] [.ref a] _ _ J e0 (C f (.ref a)) (.cons rfl .nil) (L H HT A)) λr s' h=>?_;cases r with
  |error e=>exact(show False from h).elim
  |ok fl=>
   cases fl with
    |next=>exact False.elim h
    |brk=>exact False.elim h
    |cont=>exact False.elim h
    |ret u=>
     obtain⟨v,H',os,bare,un,n,S,q⟩:=h;have g:v= .bl true:=q;subst g;obtain rfl:u=Value.bool true:=S;refine⟨rfl,⟨λb ob e=>?_,λb ob e=>un.there b ob e (by simp)⟩,os,bare⟩;cases q:H b with
      |none=>exact .inl (un.keep b ob e q (by intro z;exact absurd (show b∈([]:List Addr)from z) (by simp)) (by simp))
      |some u=>
       rcases only b u q with⟨z,_,rfl⟩|⟨g,hq,z,rfl⟩;·obtain⟨e2,_⟩:=n b _ (un.qZ b o _ q);rw[z,ha]at e;cases e;exact .inl e2
       ·obtain⟨X,l,c,ex⟩:=T.tab g hq;have em:=T.emp g hq;rw[z,e]at em;cases em;rw[ex]at q;rcases n b _ (un.qY b _ q)with e2|⟨Z,e2,_⟩;·exact .inl e2
        ·exact .inr (.inl ⟨by rw[<-z];exact UE KX (T.hd g hq),rfl,#[],_,rfl,by rw[Array.empty_append];exact e2⟩)
theorem Qh{l:PySem.W.OpenLaw}{n k:Nat}{q:Program}{loose:List Str}{XP:(Str->Option Value)->Heap->Prop}{YP:World->Heap->Prop}{d:DefRec}{K:Params->PySem.W.Frag}{sp:World->Sp}{x:Str}{ts:Po}(hn:l.most=some n)(p:n<=sizeLine)(j:d.params.defaults=[])(t:da k callerA)(i:∀(w:World)(h:Heap),YP w h->(K w.params).In h)(g:∀(w:World)(h:Heap),YP w h->TabsOk (K w.params) h ts)(F:∀(w:World)(mg:Str->Option Value)(fa:Addr)(h:Heap),(K w.params).In h->h.Ns mainGlobals mg->mg d.name=some (.ref fa)->∃fd:FuncData,(∀(s:Shared)(u:Value),BindsTo s fd ⟨[u],[]⟩ [(x,u)])/\∀base:Heap,oN l.prog w (K w.params) mg base bE k fa fd [x] (sp w))(y:∀(w:World)(H:Hp)(a:Addr)(ns:List Int),ns.length<=n->(∀q∈ts,(ts.map (·.2)).lookup q.2.1=some q.2.2->H q.2.1=some (.zk q.2.2))->bH (K w.params) H a (ns.map V.int)->sp w [.ref a] H (λv _=>v= .bl true) E0):PySem.W.WalkO q loose XP YP l.row.toRowW d [] (λf vs=>PySem.call f vs):=by refine Att.Fh hn j λw cC B mg mb fa o pm cd doc a vs ns G Y A hd z hmg r hints hlen m=>?_;have KX:=i w _ Y;obtain⟨fd,hb,b⟩:=F w mg fa _ KX G.T.g hmg;exact Nl KX G.T.g G.T.b G.T.builtins G.T.nolimit G.T.bmain m r hints (c8 hlen p) t (g w _ Y) b hb λH c e=>y w H a ns hlen c e
def Nst(K:PySem.W.Frag)(f T:Addr):Prop:=∃oc od fd Fn a,K.lookup f=some ⟨oc,od, .func fd,Fn⟩/\fd.code= .ref a/\JW K a T
def Xl(K:PySem.W.Frag)(mg:Str->Option Value)(x:Str)(st:Stmt)(ps:List Str)(T:Addr):Prop:=∃f fd,WW K x x st f fd/\mg x=some (.ref f)/\Binds K fd ps []/\Nst K f T
theorem Xl.ok{P:Program}{w:World}{K:PySem.W.Frag}{mg:Str->Option Value}{x:Str}{st:Stmt}{N ps:List Str}{k:Nat}{sp:Sp}{T:Addr}(D:Xl K mg x st ps T)(S:aT N ps (ar st))(len:∀vs H Q E,sp vs H Q E->vs.length=ps.length)(e:∀(base:Heap)(f a:Addr)(A:Around)(outer:List Env)(s:Shared)(H:Hp)(vs:List V)(Q:VK)(E:XK),JW K a T->da k (A.deeper (envOfC x (ar st) s.heap.objs.size f (.ref a)))->sp vs H Q E->∃t,iz (fh bE P w K mg base N x (ar st) f (.ref a) A outer s H E).QS (cW st) t/\t {nx:=λ_ H'=>Q .aW H',rt:=Q} (start N vs) H):bp P w K mg bE x (k+1) ps sp:=by obtain⟨f,fd,F,m,b,n⟩:=D;refine⟨f,fd,λbase=>?_,m,F.kp,b⟩;obtain⟨oc,od,kV,doc,pm,an,cS,ct,Fn,rfl,c,g⟩:=F.ex;obtain⟨p,r,o,u,a,d,hc,l⟩:=n;rw[c]at d;cases d;have hc:cS= .ref a:=hc;subst hc;exact JZ c g S len λA outer s H vs Q E i j=>let⟨t,h,q⟩:=e base f a A outer s H vs Q E l i j;⟨t,h.QS,q⟩
theorem Qd{K:PySem.W.Frag}{mg:Str->Option Value}{h:Heap}{x:Str}{st:Stmt}{ps:List Str}{c T:Addr}(D:Df K mg x st ps)(X:K.In h)(G:h.Ns mainGlobals mg)(ht:PySem.W.tabIn K x=some (c,T))(hd:PySem.W.codeHdIn K c T=true):Xl K mg x st ps T:=by obtain⟨f,fd,F,m,b⟩:=D;obtain⟨oc,od,kV,doc,pm,an,cS,ct,Fn,rfl,a,d⟩:=id F.ex;exact⟨f,_,F,m,b,oc,od,_,Fn,c,a,PySem.W.law_code X G ht m (X _ _ a) rfl,hd⟩
noncomputable def OS(s:Stmt):Pos:=match s with| .FunctionDef _ _ _ _ _ _ _ _ _ p=>p|_=>⟨0,0,0,0⟩
noncomputable def RP(ps cs:List Str)(names:List (Str×NameKind)):Bool:=names.all (λy=>y.2 != .cell&&(y.2 != .free||cs.contains y.1))&&ps.all (λx=>names.lookup x==some .local)&&cs.all (λx=>names.lookup x==some .free)&&decide (ps++cs).Nodup
theorem qi{ps cs:List Str}{scope:Scope}(h1:scope.kind= .function)(h2:scope.isCoroutine=false)(h3:scope.isGenerator=false)(h:RP ps cs scope.names=true):iR ps cs scope:=by
 unfold RP at h;simp only[cY,List.all_eq_true,decide_eq_true_eq]at h;obtain⟨⟨⟨a,b⟩,c⟩,d⟩:=h;refine⟨h1,h2,h3,λy g=>?_,λx f=>?_,d,λx f=>?_,λx e=>?_⟩;·simpa using(a y g).1
 ·simpa using b x f
 ·simpa using c x f
 ·have :=(a _ (PySem.mem_of_lookup e)).2;simpa using this
theorem Qz{cl:List (Str×Addr)}(nd:(cl.map (·.2)).Nodup):∀x y a,cl.lookup x=some a->cl.lookup y=some a->x=y:=λx y a h1 h2=>by have c:=PySem.mem_of_lookup h1;have d:=PySem.mem_of_lookup h2;obtain⟨i,hi,e1⟩:=List.mem_iff_getElem.mp c;obtain⟨j,b,e2⟩:=List.mem_iff_getElem.mp d;have :i=j:=(List.getElem_inj (i:=i) (j:=j) (h₀:=by simpa using hi) (h₁:=by simpa using b) nd).mp (by rw[List.getElem_map,List.getElem_map,e1,e2]);subst this;rw[e1]at e2;exact(Prod.mk.inj e2).1
theorem Pc{X:Cx}{σ:L2.St}{b':Heap}{f c:Addr}{name qual:Str}{params:Arguments}{body:List Stmt}{scope:Scope}{cl:List (Str×Addr)}{doc pm ct:Value}{cs:List Str}{ws:List V}(B:FZ (Bu X f (oY name qual params body scope cl doc pm c ct)) σ b')(h:cl.map (·.1)=cs)(k:(cl.map (·.2)).Nodup)(hl:ws.length=cs.length)(g:∀(i:Nat)(x:Str),cs[i]?=some x->∃(j:Nat)(v:V),ws[i]?=some v/\X.N[j]?=some x/\σ[j]?=some (some v)/\X.env.kindOf x=some .cell/\X.fn x=true/\cl.lookup x=X.env.cells.lookup x):yI b' f c name qual params body scope cs ws cl doc pm ct:=by
 refine⟨B.pin (f,oY name qual params body scope cl doc pm c ct) d4,Qz k,λx a e=>?_,λi x e=>?_,hl⟩;·rw[<-h];exact List.mem_map.mpr ⟨_,PySem.mem_of_lookup e,rfl⟩
 ·obtain⟨j,v,e1,e2,e3,e4,b,d⟩:=g i x e;obtain⟨a,u,l,m,n⟩:=B.cell j x v e2 e3 e4 b;exact⟨v,a,u,e1,by rw[d];exact l,m,n⟩
theorem KH{P:Program}{w:World}{K:PySem.W.Frag}{mg:Str->Option Value}{base:Heap}{k:Nat}{ps cs:List Str}{name qual:Str}{params:Arguments}{body:List Stmt}{scope:Scope}{f c:Addr}{cl:List (Str×Addr)}{doc pm ct:Value}{ws:List V}{sp:Sp}(S:iR ps cs scope)(C:yI base f c name qual params body scope cs ws cl doc pm ct)(hb:∀us:List Value,us.length=ps.length->bindArgs (PySem.W.fnX name qual params body scope cl .none .none doc pm none (.ref c) ct) ⟨us,[]⟩=pure (ps.zip us))(g:∀vs H Q,sp vs H Q E0->vs.length=ps.length/\H c=some (jd qual))(b:∀(a:Heap)(A:Around)(outer:List Env)(s:Shared)(H:Hp)(vs:List V)(Q:VK),da k (A.deeper (l7 qual scope s.heap.objs.size f c cl))->sp vs H Q E0->∃t,iz (Fy bE P w K mg a (ps++cs) qual scope f c cl A outer s H E0) body t/\t {nx:=λ_ H'=>Q .aW H',rt:=Q} (vs.map some++ws.map some) H):oU P w K mg base (k+1) f sp:=by refine⟨⟨_,_,_,_,C.fo⟩,λa up A outer s H us vs Q d e0 r h=>?_⟩;obtain⟨hl,hc⟩:=g vs H Q h;exact UR S e0 d (C.keeps up) hc hl r (.of_eq (hb us (by rw[<-r.length];exact hl))) λe=>b a A outer s H vs Q e h
noncomputable def YB(base:Heap)(sp:Heap->Sp)(E:XK)(t:TA):TE:=λσ H Q=>t σ H λvs a=>∀b',(∀b o,base.get? b=some o->b'.get? b=some o)->sp b' vs a Q E
theorem aay{X:Cx}{base:Heap}{CX:oJ}{x:Str}{k:Nat}{ps:List Str}{sp:Heap->Sp}{E:XK}{e:Expr}{es:List Expr}{t:TA}{p d:Pos}(F:mL X.prog X.w X.K X.mg CX x k ps sp)(v:da k X.A)(n:Gl X x)(w:Passes CX X E)(ha:PA X (e::es) t)(j:(x==("__debug__":Str))=false:=by decide)(l:starEach (e::es) X.env=(false,eval e X.env)::starEach es X.env:=by rfl)(o:(backTo d (starEach es X.env)).any (·.1)=false:=by rfl)(hc:X.calm=true:=by rfl)(i:X.base=base:=by rfl):PE X (.Call (.Name x p) (e::es) [] d) (YB base sp E t):=by
 subst i;obtain⟨f,fd,F,m,kp,b⟩:=F;intro pins s σ H Q I h;refine zT (jg I n m ?_ j);refine PySem.W.callWith_K (h₀:=X.base) I.ok.mod.Mt kp (bX (ha d pins s σ H _ I h) λus s1⟨vs,c,a,r,q⟩=>⟨a.kI,?_⟩) l o;have q:=q _ (B_ a).old;have hl:us.length=ps.length:=by rw[<-r.length];exact(F (zu s1.heap c (jQ X.stack))).len _ _ _ _ q
 have g:=b s1 us a.kI (by rw[kS];exact hl);rw[kS]at g;refine wpAny_call (codeAny_mono ((F _).run X.A X.stack s1 c ⟨us,[]⟩ us vs Q E v (O9 a hc) g r q) λy s' hq=>?_);cases y with|error e=>exact w pins σ c s1 e s' a hq|ok fl=>cases fl with|ret u=>exact a.after hq|next=>exact False.elim hq|brk=>exact False.elim hq|cont=>exact False.elim hq
theorem Xl.Sf{P:Program}{w:World}{K:PySem.W.Frag}{mg:Str->Option Value}{x:Str}{st:Stmt}{N ps:List Str}{k:Nat}{sp:Sp}{T:Addr}(D:Xl K mg x st ps T)(S:aT N ps (ar st))(len:∀vs H Q E,sp vs H Q E->vs.length=ps.length)(e:∀(base:Heap)(f a:Addr)(A:Around)(outer:List Env)(s:Shared)(H:Hp)(vs:List V)(Q:VK)(E:XK),JW K a T->da k (A.deeper (envOfC x (ar st) s.heap.objs.size f (.ref a)))->sp vs H Q E->∃t,iz (fh (gv P w) P w K mg base N x (ar st) f (.ref a) A outer s H E) (cW st) t/\t {nx:=λ_ H'=>Q .aW H',rt:=Q} (start N vs) H):bp P w K mg (gv P w) x (k+1) ps sp:=by obtain⟨f,fd,F,m,b,n⟩:=D;refine⟨f,fd,λbase=>?_,m,F.kp,b⟩;obtain⟨oc,od,kV,doc,pm,an,cS,ct,Fn,rfl,c,g⟩:=F.ex;obtain⟨o,p,l,q,a,d,hc,j⟩:=n;rw[c]at d;cases d;have hc:cS= .ref a:=hc;subst hc;exact JZ c g S len λA outer s H vs Q E h i=>e base f a A outer s H vs Q E j h i
theorem YX{X:Cx}{f:Addr}{fo:Obj}(hf:∀vs,fo.data≠ .fields vs)(ok:(Bu X f fo).Ok):X.Ok:=⟨ok.mod,ok.kind,ok.glob,ok.blt,ok.above,ok.inj,ok.has,ok.UB,λh=>by
 rcases ok.hd h with h|⟨a,oe,vs,e1,e2,e3⟩;·exact .inl h
 ·refine .inr ⟨a,oe,vs,e1,?_,e3⟩;rcases e2 with e2|e2;·exact .inl e2
  ·rcases List.mem_cons.mp e2 with z|z;·cases z;exact absurd e3.1 (hf vs)
   ·exact .inr z,ok.frames,ok.YA,ok.YF,ok.bs,ok.FD,ok.zq,ok.A0,ok.jw,ok.Sh⟩
theorem MF{CX:oJ}{X:Cx}{f:Addr}{fo:Obj}{E:XK}(h:Passes CX X E)(hf:∀vs,fo.data≠ .fields vs):Passes CX (Bu X f fo) E:=λpins σ H s e s' I hc=>h pins σ H s e s' (yP (YX hf I.ok) I) hc
end L3
end
section
namespace K23
open PySem L2 L3 KM PyProof.Rows
seal L2.PE L2.PS L2.iz L2.PT L2.PW L2.PA L2.PG L2.AR L2.PI L2.PC L2.PO L2.An L2.PK L3.AV L3.PH L3.PB
variable{P:Program}{w:World}{K:PySem.W.Frag}{mg:Str->Option Value}{base:Heap}{t:wY}
def PM(g:Int->Int->D)(Pre:Hp->Prop):Sp:=λvs H Q _=>∃n b:Int,vs=[.int n, .int b]/\0<=n/\0<=b/\Pre H/\∀(v:V)(H':Hp),aM H H'->Rep H' (g n b) v->Q v H'
structure Chg(P:Program)(w:World)(K:PySem.W.Frag)(mg:Str->Option Value)(base:Heap)(kc:Nat)(f:Addr)(g:Int->Int->D)(Pre:Hp->Prop):Prop where
 cal:oU P w K mg base kc f (PM g Pre)
 st:∀H H',Pre H->aM H H'->Pre H'
noncomputable def qT(x:Str)(i:Nat):Int:=if decide (V.int i=DG x)=true then 1 else 0
theorem lN(x:Str)(i:Nat):0<=qT x i:=by unfold qT;split<;>decide
theorem Tw(x:Str)(i:Nat):nR x i= .int (qT x i):=by unfold nR qT;split<;>rfl
noncomputable def lX(g:Int->Int->D):Nat->Int->D->D|n+1,b, .tup (.str x::ps)=>if x="var"then(match ps with|[.int i]=>if b<=i then g (i-b) b else .tup (.str x::ps)|_=> .tup (.str x::ps))else cB x ps ((List.range (az x ps).length).map λi=>lX g n (b+qT x i) (((az x ps)[i]?).getD .aW))|_,_,d=>d
def Qk(P:Program)(w:World)(K:PySem.W.Frag)(mg:Str->Option Value)(kc n:Nat)(base:Heap):Sp:=λvs H Q _=>∃(d:D)(v:V)(b:Int)(f:Addr)(g:Int->Int->D)(Pre:Hp->Prop),vs=[v, .int b, .ref f]/\Rep H d v/\Wf d/\depth d<n/\0<=b/\Pre H/\Chg P w K mg base kc f g Pre/\∀(u:V)(H':Hp),aM H H'->Rep H' (lX g n b d) u->Q u H'
theorem nJ:aT ["thing","binders","change","kids"] ["thing","binders","change"] (ar eM):=⟨rfl,rfl,rfl,by decide+kernel,rfl,by decide+kernel,by decide+kernel⟩
theorem BH{kc n:Nat}(D:Df K mg "with_free" eM ["thing","binders","change"])(M:Mg mg t)(bF:bp P w K mg bE "kids_of" (1) ["thing"] eS)(je:bp P w K mg bE "binds_of" (1) ["thing"] Cj)(dU:bp P w K mg bE "rebuilt" (1) ["thing","kids"] iN)(fO:mL P w K mg bE "with_free" (n+kc+3) ["thing","binders","change"] (Qk P w K mg kc n)):mL P w K mg bE "with_free" (n+kc+4) ["thing","binders","change"] (Qk P w K mg kc (n+1)):=by
 refine D.okB nJ (λbase vs H Q E h=>?_) (λbase f cS A outer s H vs Q E o h=>?_);·obtain⟨d,v,b,U,g,Pre,rfl,_⟩:=h;rfl
 obtain⟨d,v,b,U,g,Pre,rfl,r,wfd,hd,hb,hp,C,q⟩:=h;have W:=C.cal;obtain⟨x,ps,k,rfl,wf,Dc⟩:=kZ wfd;have hk4:=C8 wf;obtain⟨a,Mr,rfl,ha,v0,Mr,rfl,⟨rfl,hx⟩,rp⟩:=id r;have ea:lP (V.str x::Mr) 0=some (.str x):=aE (j:=0) rfl;refine⟨_,(ai (ba (aI bR (aP aR (pv 0) ah (λ_ _=>rfl)) ao (aQ _)) (aj (ay (ky (aI QH (aP aR (pv 0) ah (λ_ _=>rfl)) (pv 1) (aQ _)) (OU (i:=2) W o.m rfl (by first|exact Or.inl rfl|exact Or.inr (Or.inl rfl)|exact Or.inr (Or.inr rfl)) (ae (aS bG (aP aR (pv 0) ah (λ_ _=>rfl)) (pv 1)) (ae (pv 1) ag))) (pv 0)))) aO) (ai (Ji (ix:=3) (N':=["kid","bound","change","binders"]) (own:=2) (fr:=[2,1]) nJ.nd rfl rfl rfl (lF (N:=["thing","binders","change","kids"]) (sc:=ar eM) rfl rfl rfl (by decide+kernel)) (SY rfl M.ac3 (ae (aJ bF o.m rfl aK (ae (pv 0) ag)) (ae (aJ je o.m rfl aK (ae (pv 0) ag)) ag))) (Pk (n:=2) (by decide) (by decide)) (λ_ _ _=>(BP (n:=2) rfl (e8 (bL (i:=0) (show List.Nodup (["kid","bound","change","binders"]:List Str)by decide+kernel) rfl (Or.inl rfl)) (e8 (bL (i:=1) (show List.Nodup (["kid","bound","change","binders"]:List Str)by decide+kernel) rfl (Or.inl rfl)) wj)))) (λ_ _ _=>me) (λ_ _ _=>(aay (base:=base) fO o.m rfl aK (ae (pv 0) (ae (aS cE (pv 3) (pv 1)) (ae (pv 2) ag)))))) (aj (ay (aJ dU o.m rfl aK (ae (pv 0) (ae (pv 3) ag))))))),?_⟩;try dsimp only[gu,cH]
 refine Cy ?_;intro _ _ _;refine⟨_,rfl,a,_,_,_,rfl,rfl,bS.of ha,ea,rfl,_,rfl,?_⟩;refine aY (λc=>?_) (λc=>?_)
 ·have c:V.str x=V.str "var":=of_decide_eq_true c;cases c;obtain⟨sh,e1,_,e3,_,I,_⟩:=bM wf;rw[eO]at e1;cases e1;rw[xV]at e3 I;obtain⟨m,rfl⟩:∃m,ps=[m]:=by cases ps with|nil=>simp at I|cons m rest=>cases rest with|nil=>exact⟨m,rfl⟩|cons _ _=>simp at I
  rw[aN,cY]at e3;have hn:iB m=true:=by simpa[dg]using e3.1
  obtain⟨i,rfl⟩:∃i,m= .int i:=by cases m<;>first|exact⟨_,rfl⟩|simp[iB]at hn
  obtain⟨u1,YI,rfl,F,_⟩:=rp;cases(show u1=V.int i from F);have h0:0<=i:=by simpa[iB]using hn
  have e:lX g (n+1) b (.tup [.str "var", .int i])=if b<=i then g (i-b) b else .tup [.str "var", .int i]:=by rw[lX,if_pos rfl]
  rw[e]at q;refine⟨_,rfl,a,_,_, .int i,rfl,rfl,bS.of ha,aE (j:=1) rfl,_,rfl,_,_,rfl,rfl,_,rfl,?_⟩;refine aY (λc=>?_) (λc=>?_);·have c:b<=i:=of_decide_eq_true c;rw[if_pos c]at q;exact⟨rfl,_,rfl,a,_,_, .int i,rfl,rfl,bS.of ha,aE (j:=1) rfl,_,rfl,_,_,rfl,rfl,_,rfl,i-b,b,rfl,by lia,hb,hp,q⟩
  ·have c:¬b<=i:=of_decide_eq_false (Bool.eq_false_iff.mpr c);rw[if_neg c]at q;exact⟨_,rfl,q _ H (aM.refl H) r⟩
 have hv:x≠"var":=λz=>c (by rw[z];exact decide_eq_true rfl);have e:lX g (n+1) b (.tup (.str x::ps))=cB x ps ((List.range (az x ps).length).map λi=>lX g n (b+qT x i) (((az x ps)[i]?).getD .aW)):=by
  conv=>lhs;unfold lX
  exact if_neg hv
 rw[e]at q;refine⟨_,rfl,x,ps,_,rfl,r,Dc,λp1 us H1 _ s1 h1 F=>⟨_,rfl,x,ps,_,k,rfl,r.mono s1,wf,λp2 H2 s2 h2=>⟨p1,p2,us,_,rfl,bH.of (s2 _ _ h1),bH.of h2,λp3 VS=>?_⟩⟩⟩;have l1:=F.length;have O:=s1.trans s2;have J:=s2 _ _ h1;refine MS (az x ps).length (λi=>lX g n (b+qT x i) (((az x ps)[i]?).getD .aW)) VS (c8 hk4 (by decide)) (λi H3 hi l=>?_) λacc H3 l h3 r3=>⟨⟨us,_,bH.of (l _ _ J),bH.of (l _ _ h2),by lia⟩,?_⟩
 ·obtain⟨G,L⟩:∃G,(az x ps)[i]?=some G:=⟨_,gM hi⟩;obtain⟨S,Z,Uz⟩:=F.get L;have Y:(F8 x (az x ps).length)[i]?=some (.int (qT x i)):=by unfold F8;rw[List.getElem?_map,List.getElem?_range hi];show some (nR x i)=_;rw[Tw]
  refine⟨⟨us,_,S,_,bH.of (l _ _ J),bH.of (l _ _ h2),Z,Y⟩,?_⟩;rintro y T⟨p,x',y',rfl,hpn,rfl,hy⟩R X;obtain⟨y1,y2⟩:=hy us _ (bH.of (l _ _ J)) (bH.of (l _ _ h2));rw[Z]at y1;rw[Y]at y2;cases y1;cases y2;have B:=aq hpn (.tup [S, .int (qT x i)]);obtain⟨w1,w2⟩:=jo wf L;rw[L]at X;have sa:=O.trans (l.trans B);refine⟨p,_,rfl,bS.of ak,rfl,_,_,rfl,_,_,rfl,rfl,?_⟩;exact⟨_,rfl,_,rfl,_,rfl,_,_,rfl,rfl,_,rfl,λb' up=>⟨G,S,b+qT x i,U,g,Pre,rfl,Uz.mono (s2.trans (l.trans B)),w1,by lia,by have :=lN x i;lia,C.st _ _ hp sa,⟨W.up up,C.st⟩,λu H5 s5 r5=>X u H5 (B.trans s5) r5⟩⟩
 ·refine⟨_,rfl,_,rfl,x,ps,_,_,p3,acc,rfl,r.mono (O.trans l),h3,r3,by rw[dI,List.length_range];lia,λu T B r4=>q u T (O.trans (l.trans B)) r4⟩
theorem jZ{kc:Nat}(D:Df K mg "with_free" eM ["thing","binders","change"])(M:Mg mg t)(c:bp P w K mg bE "kids_of" (1) ["thing"] eS)(a:bp P w K mg bE "binds_of" (1) ["thing"] Cj)(e:bp P w K mg bE "rebuilt" (1) ["thing","kids"] iN):∀n:Nat,mL P w K mg bE "with_free" (n+kc+3) ["thing","binders","change"] (Qk P w K mg kc n)|0=>mL.never D λbase vs H Q E⟨d,v,b,f,g,Pre,_,_,_,h,_⟩=>absurd h (Nat.not_lt_zero _)|n+1=>by have :=BH (kc:=kc) D M c a e (jZ D M c a e n);rwa[show n+1+kc+3=n+kc+4 by lia]
noncomputable abbrev jM:Stmt:=(cW km).getD 0 (.Pass ⟨0,0,0,0⟩)
theorem oW:iR ["number","binders"] ["low","by"] (ar jM):=qi rfl rfl rfl (by decide+kernel)
noncomputable def yC(a low:Int)(n b:Int):D:= .tup [.str "var", .int (n+b+(if low<=n then a else 0))]
noncomputable def Ft:Str:="raised.<locals>.change"
noncomputable def Ew:Pos:=OS jM
def DN(T:Addr)(n:Nat):Sp:=λvs H Q _=>∃(d:D)(v:V)(a low:Int),vs=[v, .int a, .int low]/\Rep H d v/\Wf d/\depth d<n/\jI H T Ft Ew/\∀(u:V)(H':Hp),aM H H'->Rep H' (lX (yC a low) n 0 d) u->Q u H'
theorem AK:aT ["thing","by","low","change"] ["thing","by","low"] (ar km):=⟨rfl,rfl,rfl,by decide+kernel,rfl,by decide+kernel,by decide+kernel⟩
theorem QB{n:Nat}{T:Addr}(D:Xl K mg "raised" km ["thing","by","low"] T)(M:Mg mg t)(m:mL P w K mg bE "with_free" (n+1+3) ["thing","binders","change"] (Qk P w K mg 1 n)):bp P w K mg bE "raised" (n+5) ["thing","by","low"] (DN T n):=by
 refine D.ok AK (λvs H Q E h=>?_) (λbase f N A outer s H vs Q E G l h=>?_);·obtain⟨d,v,a,low,rfl,_⟩:=h;rfl
 obtain⟨d,v,a,low,rfl,r,J,hd,y,q⟩:=h;refine⟨_,(Kb (i:=3) (qual:=Ft) G rfl AK.nd rfl rfl rfl rfl (λj c doc pm ct=>(aj (ay (Oz m l.m rfl aK (ae (pv 0) (ae ah (ae (pv 3) ag)))))))),?_⟩;try dsimp only[gu,O]
 refine⟨y,λj c doc pm ct o s1 hc=>?_⟩;refine⟨v,rfl,_,rfl,λb' B=>?_⟩;refine⟨d,v,0,j,yC a low,λH'=>H' c=some (jd Ft),rfl,r.mono s1,J,hd,Int.le_refl 0,hc,⟨?_,λo g h s=>s _ _ h⟩,λu g s2 I=>q u g (s1.trans s2) I⟩;have C:=Pc (cs:=["low","by"]) (ws:=[.int low, .int a]) B rfl (by simp) rfl λi x e=>by match i,e with|0,e=>cases e;exact⟨2,_,rfl,rfl,rfl,rfl,rfl,rfl⟩|1,e=>cases e;exact⟨1,_,rfl,rfl,rfl,rfl,rfl,rfl⟩|i+2,e=>simp at e
 refine KH (k:=0) oW C (λus hl=>match us,hl with|[_,_],_=>rfl) (λvs H Q⟨n,b,e,_,_,h,_⟩=>⟨by rw[e];rfl,h⟩) λL A outer s H vs Q l h=>?_;obtain⟨n,b,rfl,R,hb,_,q⟩:=h;refine⟨_,(aj (ay (av (ae ao (ae (aS cE (aS cE (pv 0) (pv 1)) (ky (aI QH (pv 0) (pv 2) (aQ _)) (pv 3) ah)) ag))))),?_⟩;refine⟨_,rfl,_,rfl,_,_,rfl,rfl,_,rfl,_,rfl,_,_,rfl,rfl,_,rfl,?_⟩;have fin:∀z:Int,z=(if low<=n then a else 0)->∀p,H p=none->Q (.ref p) (upd H p (.tup [.str "var", .int (n+b+z)])):=λz F p hp=>by refine q _ _ (aq hp _) ?_;rw[F];exact eC hp (rs ir (rs ri r0))
 refine aY (λc=>?_) (λc=>?_);·have c:low<=n:=of_decide_eq_true c;exact⟨_,rfl,_,_,rfl,rfl,(cN rfl),fin a (by rw[if_pos c])⟩
 ·have c:¬low<=n:=of_decide_eq_false (Bool.eq_false_iff.mpr c);exact⟨_,_,rfl,rfl,(cN rfl),fin 0 (by rw[if_neg c])⟩
theorem DT{x:Str}{ps:List D}{k:Bool}(wf:bu aw k (.tup (.str x::ps))=true)(f:Nat->D)(b:∀(i:Nat)(p:D)(c:Nat),(az x ps)[i]?=some p->dg aw c p=true->(c=107\/c=116)->dg aw c (f i)=true):bu aw k (cB x ps ((List.range (az x ps).length).map f))=true:=by
 unfold cB;by_cases hq:(List.range (az x ps).length).map f=[];·rw[if_pos hq];exact wf
 rw[if_neg hq];obtain⟨r,h1,h2,h3,h4,h5,h6,m,_⟩:=bM wf;have d:cZ x=false:=by cases e:cZ x with|false=>rfl|true=>exact absurd (by unfold az;rw[if_pos e];rfl) hq
 have l:az x ps=ps:=by unfold az;rw[d];rfl
 refine cX h1 h2 ?_;rw[l]at b⊢;have o:∀(cs:List Nat)(a:List D)(j:Nat),dZ aw cs a=true->(∀c∈cs,c=107\/c=116)->(∀(i:Nat)(p:D)(c:Nat),a[i]?=some p->dg aw c p=true->(c=107\/c=116)->dg aw c (f (j+i))=true)->dZ aw cs ((List.range' j a.length).map f)=true:=λcs=>by
  induction cs with
   |nil=>intro a j h _ _;cases a with|nil=>exact h|cons _ _=>simp[dZ]at h
   |cons c cs n=>intro a j h hc hf;cases a with|nil=>simp[dZ]at h|cons q a=>rw[aN,cY]at h;rw[cF,List.range'_succ,d7,aN,cY];refine⟨by have :=hf 0 q c rfl h.1 (hc c d4);rwa[Nat.add_zero]at this,n a (j+1) h.2 (λc h=>hc c (dW _ h)) λi p g e1 e2 e3=>?_⟩;have :=hf (i+1) p g (by simpa using e1) e2 e3;rwa[show j+1+i=j+(i+1)by lia]
 have :=o r.cps.toList ps 0 h3 (λc hc=>m d c hc) λi p c e1 e2 e3=>by rw[Nat.zero_add];exact b i p c e1 e2 e3
 rwa[<-List.range_eq_range']at this
theorem OY{x:Str}{ps:List D}{k:Bool}(wf:bu aw k (.tup (.str x::ps))=true)(f:Nat->D)(b:∀(i:Nat)(p:D),(az x ps)[i]?=some p->aC (f i)=aC p/\depth (f i)=depth p):aC (cB x ps ((List.range (az x ps).length).map f))=aC (.tup (.str x::ps))/\depth (cB x ps ((List.range (az x ps).length).map f))=depth (.tup (.str x::ps)):=by
 unfold cB;by_cases hq:(List.range (az x ps).length).map f=[];·rw[if_pos hq];exact⟨rfl,rfl⟩
 rw[if_neg hq];have l:cZ x=false:=by cases e:cZ x with|false=>rfl|true=>exact absurd (by unfold az;rw[if_pos e];rfl) hq
 have c:az x ps=ps:=by unfold az;rw[l];rfl
 rw[c]at b⊢;have g:∀(a:List D)(j:Nat),(∀(i:Nat)(p:D),a[i]?=some p->aC (f (j+i))=aC p/\depth (f (j+i))=depth p)->aL ((List.range' j a.length).map f)=aL a/\aD ((List.range' j a.length).map f)=aD a:=λa=>by
  induction a with
   |nil=>intro _ _;exact⟨rfl,rfl⟩
   |cons q a d=>
    intro j h;obtain⟨a1,a2⟩:=d (j+1) λi p e=>by have :=h (i+1) p (by simpa using e);rwa[show j+1+i=j+(i+1)by lia]
    obtain⟨b1,b2⟩:=h 0 q rfl;rw[Nat.add_zero]at b1 b2;rw[cF,List.range'_succ,d7,aL,aD,aL,aD,a1,a2,b1,b2];exact⟨rfl,rfl⟩
 have :=g ps 0 λi p e=>by rw[Nat.zero_add];exact b i p e
 rw[<-List.range_eq_range']at this;simp only[aC,aL,depth,aD];rw[this.1,this.2];exact⟨rfl,rfl⟩
theorem Ir{k:Bool}{ps:List D}(wf:bu aw k (.tup (.str "var"::ps))=true):∃i:Int,ps=[.int i]/\0<=i/\k=false:=by
 obtain⟨c,e1,e2,e3,_,b,_⟩:=bM wf;rw[eO]at e1;cases e1;rw[xV]at e3 b;obtain⟨a,rfl⟩:∃a,ps=[a]:=by cases ps with|nil=>simp at b|cons a rest=>cases rest with|nil=>exact⟨a,rfl⟩|cons _ _=>simp at b
 rw[aN,cY]at e3;have hn:iB a=true:=by simpa[dg]using e3.1
 obtain⟨i,rfl⟩:∃i,a= .int i:=by cases a<;>first|exact⟨_,rfl⟩|simp[iB]at hn
 exact⟨i,rfl,by simpa[iB]using hn,by rw[<-e2];exact zf⟩
theorem BA{z:Int}(h:0<=z):bu aw false (.tup [.str "var", .int z])=true:=by refine cX eO zf ?_;rw[xV,aN];simp[dg,iB,h,dZ]
theorem RA{c:Nat}{p:D}(h:dg aw c p=true)(hc:c=107\/c=116):∃k,bu aw k p=true/\∀q,bu aw k q=true->dg aw c q=true:=by
 rcases hc with rfl|rfl;·exact⟨true,h,λq hq=>hq⟩
 ·exact⟨false,h,λq hq=>hq⟩
theorem oV{a low:Int}(g:0<=a):∀(n:Nat)(b:Int)(d:D)(k:Bool),0<=b->depth d<n->bu aw k d=true->bu aw k (lX (yC a low) n b d)=true/\aC (lX (yC a low) n b d)=aC d/\depth (lX (yC a low) n b d)=depth d
 |0,_,_,_,_,h,_=>absurd h (Nat.not_lt_zero _)
 |n+1,b,d,k,hb,hd,wf=>by
  obtain⟨x,ps,rfl⟩:=cz wf;by_cases j:x="var"
  ·subst j;obtain⟨i,rfl,hi,rfl⟩:=Ir wf;have e:lX (yC a low) (n+1) b (.tup [.str "var", .int i])=if b<=i then yC a low (i-b) b else .tup [.str "var", .int i]:=by rw[lX,if_pos rfl]
   rw[e];split;·unfold yC;refine⟨BA ?_,by simp[aC,aL],by simp[depth,aD]⟩;split<;>lia
   ·exact⟨wf,rfl,rfl⟩
  ·have e:lX (yC a low) (n+1) b (.tup (.str x::ps))=cB x ps ((List.range (az x ps).length).map λi=>lX (yC a low) n (b+qT x i) (((az x ps)[i]?).getD .aW)):=by
    conv=>lhs;unfold lX
    exact if_neg j
   rw[e];refine⟨DT wf _ λi p c e1 e2 e3=>?_,OY wf _ λi p e1=>?_⟩;·obtain⟨w1,l⟩:=jo wf e1;obtain⟨f,h1,h2⟩:=RA e2 e3;rw[e1];exact h2 _ (oV g n (b+qT x i) p f (by have :=lN x i;lia) (by lia) h1).1
   ·obtain⟨⟨f,w1⟩,l⟩:=jo wf e1;rw[e1];exact(oV g n (b+qT x i) p f (by have :=lN x i;lia) (by lia) w1).2
noncomputable abbrev jL:Stmt:=(cW j6).getD 0 (.Pass ⟨0,0,0,0⟩)
theorem oH:iR ["number","binders"] ["other","at"] (ar jL):=qi rfl rfl rfl (by decide+kernel)
noncomputable def lI(o:D)(at_:Int)(n b:Int):D:=if n=at_ then lX (yC b 0) 58 0 o else .tup [.str "var", .int (n+b-(if at_<n then 1 else 0))]
noncomputable def AS:Str:="put_in.<locals>.change"
noncomputable def Av:Pos:=OS jL
noncomputable abbrev Bh(o:D)(at_:Int)(d:D):D:=lX (lI o at_) 58 0 d
noncomputable abbrev eL(d:D):Bool:=dw d||eI d
structure afz(H:Hp)(T1 T2:Addr)(at_:Int)(d o:D)(v u:V):Prop where
 r:Rep H d v
 ro:Rep H o u
 wf:Wf d
 wfo:Wf o
 dp:depth d<58
 dpo:depth o<58
 rz:Rz (Bh o at_ d) 100
 t1:jI H T1 Ft Ew
 t2:jI H T2 AS Av
def Ls(C T1 T2:Addr):Sp:=λvs H Q E=>∃(d o:D)(v u:V)(at_:Int),vs=[v,u, .int at_]/\afz H T1 T2 at_ d o v u/\(∀(z:V)(H':Hp),aM H H'->eL (Bh o at_ d)=false->Rep H' (Bh o at_ d) z->Q z H')/\(∀H',aM H H'->eL (Bh o at_ d)=true->E (.ref C) none H')
theorem z4:aT ["thing","other","at","change"] ["thing","other","at"] (ar j6):=⟨rfl,rfl,rfl,by decide+kernel,rfl,by decide+kernel,by decide+kernel⟩
theorem Ox{T1 T2:Addr}(D:Xl K mg "put_in" j6 ["thing","other","at"] T2)(M:Mg mg t)(F:bp P w K mg bE "raised" (63) ["thing","by","low"] (DN T1 58))(G:mL P w K mg bE "with_free" (58+64+3) ["thing","binders","change"] (Qk P w K mg 64 58))(y:bp P w K mg (gv P w) "bounded" (104) ["thing"] (pA t.cx 100)):bp P w K mg (gv P w) "put_in" (126) ["thing","other","at"] (Ls t.cx T1 T2):=by
 refine D.Sf z4 (λvs H Q E h=>?_) (λbase f W A outer s H vs Q E S a h=>?_);·obtain⟨d,o,v,u,at_,rfl,_⟩:=h;rfl
 obtain⟨d,o,v,u,at_,rfl,I,q,T⟩:=h;refine⟨_,(Kb (i:=3) (qual:=AS) S rfl z4.nd rfl rfl rfl rfl (λm c doc pm ct=>(aj (ay (aJ y a.m rfl (MF dN (λ_ z=>nomatch z)) (ae (Oz G a.m rfl aK (ae (pv 0) (ae ah (ae (pv 3) ag)))) ag)))))),?_⟩;try dsimp only[gu,X]
 refine⟨I.t2,λm c doc pm ct J s1 hc=>?_⟩;refine⟨v,rfl,_,rfl,λb' B=>?_⟩;refine⟨d,v,0,m,lI o at_,λH'=>H' c=some (jd AS)/\Rep H' o u/\jI H' T1 Ft Ew,rfl,I.r.mono s1,I.wf,I.dp,Int.le_refl 0,⟨hc,I.ro.mono s1,I.t1.mono s1⟩,⟨?_,λJ L h s=>⟨s _ _ h.1,h.2.1.mono s,h.2.2.mono s⟩⟩,λz L s2 r=>?_⟩;rotate_left;·exact⟨_,z,rfl,r,I.rz,λj g l=>q z j (s1.trans (s2.trans g)) l (r.mono g),λj g l=>T j (s1.trans (s2.trans g)) l⟩
 have C:=Pc (cs:=["other","at"]) (ws:=[u, .int at_]) B rfl (by simp) rfl λi x e=>by match i,e with|0,e=>cases e;exact⟨1,_,rfl,rfl,rfl,rfl,rfl,rfl⟩|1,e=>cases e;exact⟨2,_,rfl,rfl,rfl,rfl,rfl,rfl⟩|i+2,e=>simp at e
 refine KH (k:=63) oH C (λus hl=>match us,hl with|[_,_],_=>rfl) (λvs H Q⟨n,b,e,_,_,h,_⟩=>⟨by rw[e];rfl,h.1⟩) λU A outer s H vs Q a h=>?_;obtain⟨n,b,rfl,Y,hb,⟨_,O,N⟩,q⟩:=h;refine⟨_,(ai (ba (aI bR (pv 0) (pv 3) (aQ _)) (aj (ay (aJ F a.m rfl aK (ae (pv 2) (ae (pv 1) (ae ah ag)))))) aO) (aj (ay (av (ae ao (ae (aS bG (aS cE (pv 0) (pv 1)) (ky (aI ng (pv 0) (pv 3) (aQ _)) ah ah)) ag)))))),?_⟩;unfold lI at q;refine⟨_,rfl,_,rfl,rfl,_,rfl,?_⟩;refine aY (λc=>?_) (λc=>?_)
 ·have c:n=at_:=by have :V.int n=V.int at_:=of_decide_eq_true c;injection this
  rw[if_pos c]at q;exact⟨_,rfl,_,rfl,o,u,b,0,rfl,O,I.wfo,I.dpo,N,q⟩
 have c:¬n=at_:=λz=>c (by rw[z];exact decide_eq_true rfl);rw[if_neg c]at q;refine⟨_,rfl,_,rfl,_,_,rfl,rfl,_,rfl,_,rfl,_,_,rfl,rfl,_,rfl,?_⟩;have fin:∀z:Int,z=(if at_<n then 1 else 0)->∀p,H p=none->Q (.ref p) (upd H p (.tup [.str "var", .int (n+b-z)])):=λz R p hp=>by refine q _ _ (aq hp _) ?_;rw[R];exact eC hp (rs ir (rs ri r0))
 refine aY (λc=>?_) (λc=>?_);·have c:at_<n:=of_decide_eq_true c;exact⟨_,_,rfl,rfl,(cN rfl),fin 1 (by rw[if_pos c])⟩
 ·have c:¬at_<n:=of_decide_eq_false (Bool.eq_false_iff.mpr c);exact⟨_,_,rfl,rfl,(cN rfl),fin 0 (by rw[if_neg c])⟩
end K23
end
section
namespace L3
open PySem PySem.Spec PyProof.Rows L2 KM
end L3
end
section
namespace L3
open PySem
end L3
end
section
namespace L3
open PySem PySem.Builtin PySem.Builtin.Str PySem.StrLaws
noncomputable def brk(c:Nat):Bool:=c==32||c==10||c==40||c==41
end L3
end
section
namespace L3
open PySem PySem.Spec PyProof.Rows L2 KM
section
variable{X:Cx}
variable{e:Expr}{es:List Expr}{te:TE}{st:Stmt}{rest:List Stmt}{t u:TS}{pos:Pos}
end
structure afI(P:Program)(w:World)(K:PySem.W.Frag)(mg:Str->Option Value)(base:Heap)(CX:oJ)(k:Nat)(f:Addr)(fd:FuncData)(ps:List Str)(sp:Sp):Prop where
 len:∀vs H Q E,sp vs H Q E->vs.length=ps.length
 run:∀(A:Around)(outer:List Env)(s:Shared)(H:Hp)(args:Args)(us:List Value)(vs:List V)(Q:VK)(E:XK),0<s.toks->da k A->Fi P w K mg base A outer s H->BindsTo s fd args (ps.zip us)->Vals vs us->sp vs H Q E->codeAny (model P w) A (.call (.ref f) args) (CR CX A.handled outer P w H s Q E) s
section
variable{X:Cx}
end
end L3
end
section
namespace L3
open PySem PySem.Spec PyProof.Rows L2
section
variable{prog:Program}{w:World}{A:Around}{E:Value->Shared->Prop}{s:Shared}
end
noncomputable def Zb(K:PySem.W.Frag):R2:=λx y H Q=>∃p q xs,x= .ref p/\y= .ref q/\bH K H p xs/\bH K H q []/\Q (.bl (decide (xs=[]))) H
theorem Qm{X:Cx}(o:X.A.units+1<cLine):lj X (compareOp .Eq) (Zb X.K):=by
 intro pins s σ H x y v u Q I m n h;obtain⟨p,q,xs,rfl,rfl,g,i,h⟩:=h;cases m;cases n;obtain⟨r,k,d,_⟩:=I.list g;obtain⟨b,l,f,_⟩:=I.list i;have t:=k.length;have c:=l.length;have c:b.length=0:=c.symm;by_cases a:xs=[]
 ·rw[decide_eq_true a]at h;subst a;refine SeqAt.eq_listAt d.isList f.isList (e:=λ_=>true) (by simp;lia) (by lia) (λj h1 h2=>?_) ⟨.bl true,H,I,?_,h⟩
  ·have :j<b.length:=by simpa using h2
   lia
  ·show Value.bool _=Value.bool true;congr 1;simp
 ·rw[decide_eq_false a]at h;have :xs.length≠0:=λz=>a (List.length_eq_zero_iff.mp z);exact SeqAt.RcAt.lists_lengths d.isList f.isList (by simp;lia) (by lia) _ _ _ _ ⟨.bl false,H,I,rfl,h⟩
end L3
end
section
namespace K23
open PySem L2 L3 KM PyProof.Rows
seal L2.PE L2.PS L2.iz L2.PT L2.PW L2.PA L2.PG L2.AR L2.PI L2.PC L2.PO L2.An L2.PK L3.AV L3.PH L3.PB
variable{P:Program}{w:World}{K:PySem.W.Frag}{mg:Str->Option Value}{base:Heap}{t:wY}
noncomputable abbrev qU:=List Nat×Str
noncomputable def ae3:V->Option Str| .str y=>some y|_=>none
noncomputable def iF(inb:Str->Bool)(d:D):Option Str:=ae3 (bI inb d)
theorem ij(inb:Str->Bool)(d:D):(bI inb d= .aW/\iF inb d=none)\/∃y:Str,bI inb d= .str y/\iF inb d=some y/\y.length<=1000/\CI (.str y)=true:=by
 have st:∀y:Str,bI inb d= .str y->y.length<=1000->CI (.str y)=true->(bI inb d= .aW/\iF inb d=none)\/∃y:Str,bI inb d= .str y/\iF inb d=some y/\y.length<=1000/\CI (.str y)=true:=λy e h1 h2=> .inr ⟨y,e,by unfold iF;rw[e];rfl,h1,h2⟩;have b:bI inb d= .aW->(bI inb d= .aW/\iF inb d=none)\/∃y:Str,bI inb d= .str y/\iF inb d=some y/\y.length<=1000/\CI (.str y)=true:=λe=> .inl ⟨e,by unfold iF;rw[e];rfl⟩;have cs:bI inb d= .aW\/∃y∈(["name","fun","like","first","second","zero","next"]:List Str),bI inb d= .str y:=by
  unfold bI;split
  ·unfold eP EO;repeat' split
   all_goals first|exact .inl rfl|exact .inr ⟨_,by decide+kernel,rfl⟩
  ·exact .inl rfl
 rcases cs with h|⟨y,a,h⟩;·exact b h
 ·have hb:y.length<=1000/\CI (.str y)=true:=by simp only[gF,jf,or_false]at a;rcases a with rfl|rfl|rfl|rfl|rfl|rfl|rfl<;>exact⟨by decide+kernel,by decide+kernel⟩
  exact st y h hb.1 hb.2
noncomputable def Mo(r:qU):D:= .tup [WX r.1, .str r.2]
theorem Mp{H:Hp}{i:Nat}{pl:List Nat}{a:Addr}{vs:List V}(h:H a=some (.tup (V.int i::vs)))(r:bz H (pl.map λi=>D.int (i:Nat)) vs):Rep H (WX (i::pl)) (.ref a):=⟨a,_,rfl,h,_,_,rfl,rfl,r⟩
mutual noncomputable def dy(inb:Str->Bool):D->Option qU
 | .tup (.str x::ps)=>match iF inb (.tup (.str x::ps))with|some y=>some ([],y)|none=>if cZ x=true then none else iI inb 0 ps
 |_=>none noncomputable def iI(inb:Str->Bool):Nat->List D->Option qU|_,[]=>none|i,d::ds=>match dy inb d with|some r=>some (i::r.1,r.2)|none=>iI inb (i+1) ds end
theorem Uv(inb:Str->Bool)(x:Str)(ps:List D):dy inb (.tup (.str x::ps))=match iF inb (.tup (.str x::ps))with|some y=>some ([],y)|none=>iI inb 0 (az x ps):=by
 rw[dy];cases iF inb (.tup (.str x::ps))with
  |some y=>rfl
  |none=>
   show(if cZ x=true then none else iI inb 0 ps)=iI inb 0 (az x ps);unfold az;split;·rw[iI]
   ·rfl
noncomputable def FsV(H:Hp):Option qU->V->Prop|none,u=>u= .aW|some r,u=>Rep H (Mo r) u
mutual theorem Jv(inb:Str->Bool):∀(d:D)(r:qU),dy inb d=some r->r.1.length<depth d/\r.2.length<=1000
 | .tup (.str x::ps),r,h=>by
  rw[dy]at h;rcases ij inb (.tup (.str x::ps))with⟨_,e⟩|⟨y,_,e,hy,_⟩
  ·rw[e]at h;have h:(if cZ x=true then none else iI inb 0 ps)=some r:=h;split at h;·cases h
   ·have :=DQ inb ps 0 r h;simp only[depth,aD];lia
  ·rw[e]at h;have h:some (([]:List Nat),y)=some r:=h;cases h;exact⟨by simp only[depth];show 0<_;lia,hy⟩
 | .tup [],r,h=>by simp[dy]at h
 | .tup (.aW::_),r,h=>by simp[dy]at h
 | .tup (.bl _::_),r,h=>by simp[dy]at h
 | .tup (.int _::_),r,h=>by simp[dy]at h
 | .tup (.tup _::_),r,h=>by simp[dy]at h
 | .aW,r,h=>by simp[dy]at h
 | .bl _,r,h=>by simp[dy]at h
 | .int _,r,h=>by simp[dy]at h
 | .str _,r,h=>by simp[dy]at h theorem DQ(inb:Str->Bool):∀(ds:List D)(i:Nat)(r:qU),iI inb i ds=some r->r.1.length<=aD ds/\r.2.length<=1000|[],i,r,h=>by rw[iI]at h;cases h|d::ds,i,r,h=>by rw[iI]at h;simp only[aD];cases e:dy inb d with|some q=>rw[e]at h;have h:some ((i::q.1,q.2):qU)=some r:=h;cases h;have :=Jv inb d q e;exact⟨by show q.1.length+1<=_;lia,this.2⟩|none=>rw[e]at h;have :=DQ inb ds (i+1) r h;exact⟨by lia,this.2⟩end
def uY(n:Nat):Sp:=λvs H Q _=>∃(d:D)(v:V)(b:Addr)(aH:List (Key×V)),vs=[v, .ref b]/\Rep H d v/\Rz d n/\n<=100/\H b=some (.dK aH)/\∀(u:V)(H':Hp),aM H H'->FsV H' (dy (e9 aH) d) u->Q u H'
theorem d6:aT ["thing","book","rule","number","kid","step"] ["thing","book"] (ar eZ):=⟨rfl,rfl,rfl,by decide+kernel,rfl,by decide+kernel,by decide+kernel⟩
theorem zO{n:Nat}(D:Df K mg "first_step" eZ ["thing","book"])(M:Mg mg t)(gq:bp P w K mg bE "rule_of" (1) ["thing","book"] oG)(bF:bp P w K mg bE "kids_of" (1) ["thing"] eS)(gk:bp P w K mg bE "first_step" (n+3) ["thing","book"] (uY n)):bp P w K mg bE "first_step" (n+4) ["thing","book"] (uY (n+1)):=by
 refine D.ok d6 (λvs H Q E h=>?_) (λbase f cS A outer s H vs Q E z h=>?_);·obtain⟨d,v,b,aH,rfl,_⟩:=h;rfl
 obtain⟨d,v,b,aH,rfl,r,rz,hn,hb,q⟩:=h;obtain⟨x,ps,k,rfl,wf,Dc⟩:=kZ rz.wf;have hk4:=C8 wf;refine⟨_,(ai (aF (i:=2) d6.nd rfl (bY rfl) (aJ gq z.m rfl aK (ae (pv 0) (ae (pv 1) ag)))) (ai (ba (aI rD (pv 2) iu (aQ _)) (aj (ay (av (ae (av ag) (ae (pv 2) ag))))) aO) (ai (fz PassesOwn.never rfl (Qc rfl M.Fd (ae (aJ bF z.m rfl aK (ae (pv 0) ag)) ag)) (BP (n:=2) rfl (e8 (bL (i:=3) d6.nd rfl (bY rfl)) (e8 (bL (i:=4) d6.nd rfl (bY rfl)) wj))) (ai (aF (i:=5) d6.nd rfl (bY rfl) (aJ gk z.m rfl aK (ae (pv 4) (ae (pv 1) ag)))) (aj (ba (aI rD (pv 5) iu (aQ _)) (aj (ay (av (ae (aS tN (av (ae (pv 3) ag)) (aP aR (pv 5) ah (λ_ _=>rfl))) (ae (aP aR (pv 5) ah (λ_ _=>rfl)) ag))))) aO)))) (aj (ay iu))))),?_⟩;try dsimp only[gu,cH]
 refine A9 ?_;intro _ _ _ _;refine⟨_,rfl,_,rfl,_,v,b,aH,rfl,r,rz.wf,hb,λH1 s1=>?_⟩;rw[Uv]at q;rcases ij (e9 aH) (.tup (.str x::ps))with⟨e1,e2⟩|⟨y,e1,e2,e,_⟩
 ·rw[e1];rw[e2]at q;have q:∀(u:V)(H':Hp),aM H H'->FsV H' (iI (e9 aH) 0 (az x ps)) u->Q u H':=q;refine⟨_,rfl,rfl,_,rfl,aY (λc=>absurd c (by decide)) (λ_=>?_)⟩;refine⟨_,rfl,x,ps,v,rfl,r.mono s1,Dc,λp3 us H3 VS s3 h3 Z=>?_⟩;have l3:=Z.length;have J:=s1.trans s3;refine⟨p3,us,rfl,bH.of h3,?_⟩;let zx:Nat->L2.St->Hp->Prop:=(λi S H'=>∃(C B O:Option V),S=[some v,some (.ref b),some V.aW,C,B,O]/\aM H3 H'/\iI (e9 aH) 0 (az x ps)=iI (e9 aH) i ((az x ps).drop i));refine gy us.length zx ?_ ?_ ?_;·exact⟨none,none,none,rfl,aM.refl _,rfl⟩
  ·rintro i S T hi⟨C,B,O,rfl,a,hf⟩;obtain⟨g,m⟩:∃g,(az x ps)[i]?=some g:=⟨_,gM (by lia)⟩;obtain⟨R,X,G⟩:=Z.get m;have G:=G.mono a;have hb4:T b=some (.dK aH):=a _ _ (J _ _ hb);refine⟨⟨us,R,bH.of (a _ _ h3),X⟩,?_⟩;rintro x' H4'⟨p5,y,rfl,hp5,rfl,e⟩;have e:=e us (bH.of (a _ _ h3));rw[X]at e;cases e;have o:=aq hp5 (.tup [V.int (i:Nat),R]);have rzi:=rz.kid m;have hdr:(az x ps).drop i=g::(az x ps).drop (i+1):=by
    have hl:i<(az x ps).length:=by lia
    rw[List.drop_eq_getElem_cons hl];rw[gM hl]at m;rw[Option.some.inj m]
   rw[hdr,iI]at hf;refine⟨p5,_,rfl,bS.of ak,rfl,_,_,rfl,_,_,rfl,rfl,?_⟩;refine⟨_,rfl,_,rfl,g,R,b,aH,rfl,G.mono o,rzi,(by lia),o _ _ hb4,λu6 H6 s6 l=>?_⟩;cases p:dy (e9 aH) g with
    |none=>rw[p]at l hf;cases(show u6=V.aW from l);refine⟨_,rfl,rfl,_,rfl,aY (λc=>absurd c (by decide)) (λ_=>?_)⟩;exact⟨_,_,_,rfl,a.trans (o.trans s6),hf⟩
    |some F=>
     rw[p]at l hf;have hf:iI (e9 aH) 0 (az x ps)=some (i::F.1,F.2):=hf;rw[hf]at q;obtain⟨zl,hy2⟩:=Jv _ _ _ p;have hdd:=rzi.dp;obtain⟨U,_,rfl,W,⟨v1,_,rfl,r1,⟨v2,_,rfl,⟨rfl,_⟩,rn⟩⟩⟩:=l;cases(show _=[]from rn);obtain⟨bb,vs,rfl,hbb,rb⟩:=r1;have lb:=rb.length;rw[dI]at lb;refine⟨_,rfl,rfl,_,rfl,aY (λ_=>?_) (λc=>absurd rfl c)⟩;refine⟨_,rfl,(cN rfl),λp9 hp9=>?_⟩;have L:=aq hp9 (.tup [V.int (i:Nat)]);refine⟨_,rfl,U,_,_,_,rfl,rfl,bS.of (L _ _ W),aE (j:=0) rfl,p9,bb,_,_,rfl,rfl,ak,L _ _ hbb,?_,λp8 H8 s8 h8=>?_⟩;·rw[sizeLine_eq,EY];lia
     have N:=L.trans s8;refine⟨_,rfl,U,_,_,_,rfl,rfl,bS.of (N _ _ W),aE (j:=1) rfl,(cN rfl),λp10 aer=>?_⟩;have I:=aq aer (.tup [V.ref p8, .str F.2]);exact q _ _ (J.trans (a.trans (o.trans (s6.trans (N.trans I))))) ⟨p10,_,rfl,ak,⟨_,_,rfl,Mp (I _ _ h8) (rb.mono (N.trans I)),⟨_,_,rfl,⟨rfl,hy2⟩,rfl⟩⟩⟩
  ·rintro S T⟨C,B,O,rfl,a,hf⟩;refine⟨⟨us,bH.of (a _ _ h3),rfl⟩,?_⟩;rw[l3,List.drop_length,iI]at hf;rw[hf]at q;exact q _ _ (J.trans a) rfl
 ·rw[e1];rw[e2]at q;refine⟨_,rfl,rfl,_,rfl,aY (λ_=>?_) (λc=>absurd rfl c)⟩;refine⟨(cN rfl),λY XQ=>⟨_,rfl,(cN rfl),λp1 lJ=>?_⟩⟩;have t0:=aq XQ (.tup []);have t1:=aq lJ (.tup [V.ref Y, .str y]);exact q _ _ (s1.trans (t0.trans t1)) ⟨p1,_,rfl,ak,⟨_,_,rfl,⟨Y,[],rfl,t1 _ _ ak,rfl⟩,⟨_,_,rfl,⟨rfl,e⟩,rfl⟩⟩⟩
theorem mE(D:Df K mg "first_step" eZ ["thing","book"])(M:Mg mg t)(c:bp P w K mg bE "rule_of" (1) ["thing","book"] oG)(a:bp P w K mg bE "kids_of" (1) ["thing"] eS):∀n:Nat,bp P w K mg bE "first_step" (n+3) ["thing","book"] (uY n)|0=>bp.never D λvs H Q E⟨d,v,b,aH,_,_,h,_⟩=>absurd h.dp (Nat.not_lt_zero _)|n+1=>zO D M c a (mE D M c a n)
end K23
end
section
namespace K23
open PySem L2 L3 KM PyProof.Rows
noncomputable def xt(at_:Int):Nat->Int->D->Nat|n+1,b, .tup (.str x::ps)=>if x="var"then(match ps with|[.int i]=>if i=at_+b then 1 else 0|_=>0)else((List.range (az x ps).length).map λi=>xt at_ n (b+qT x i) (((az x ps)[i]?).getD .aW)).sum|_,_,_=>0
theorem Mf{x:Str}{ps:List D}{k:Bool}(wf:bu aw k (.tup (.str x::ps))=true)(f:Nat->D):aC (cB x ps ((List.range (az x ps).length).map f))=1+((List.range (az x ps).length).map λi=>aC (f i)).sum/\depth (cB x ps ((List.range (az x ps).length).map f))=1+jF ((List.range (az x ps).length).map λi=>depth (f i)):=by
 unfold cB;by_cases hq:(List.range (az x ps).length).map f=[]
 ·rw[if_pos hq];have hl:(az x ps).length=0:=by have :=congrArg List.length hq;rw[dI,List.length_range]at this;exact this
  obtain⟨e1,e2⟩:=jm wf;rw[e1,e2,hl,List.length_eq_zero_iff.mp hl];exact⟨rfl,rfl⟩
 ·rw[if_neg hq];have e1:aC (.tup (.str x::(List.range (az x ps).length).map f))=1+aL ((List.range (az x ps).length).map f):=by simp[aC,aL]
  have e2:depth (.tup (.str x::(List.range (az x ps).length).map f))=1+aD ((List.range (az x ps).length).map f):=by simp[depth,aD]
  rw[e1,e2,lD,l9,List.map_map,List.map_map];exact⟨rfl,rfl⟩
theorem GS{x:Str}{ps:List D}{k:Bool}(wf:bu aw k (.tup (.str x::ps))=true):aC (.tup (.str x::ps))=1+((List.range (az x ps).length).map λi=>aC (((az x ps)[i]?).getD .aW)).sum/\depth (.tup (.str x::ps))=1+jF ((List.range (az x ps).length).map λi=>depth (((az x ps)[i]?).getD .aW)):=by
 obtain⟨e1,e2⟩:=jm wf;rw[e1,e2];have a:∀(l:List D)(g:D->Nat),l.map g=(List.range l.length).map λi=>g ((l[i]?).getD .aW):=λl g=>by
  refine List.ext_getElem (by simp) λi h1 h2=>?_;have hi:i<l.length:=by simpa using h1
  simp[gM hi]
 rw[a _ aC,a _ depth];exact⟨rfl,rfl⟩
theorem Iz(A B C:Nat->Nat)(m:Nat):∀l:List Nat,(∀i∈l,A i+C i=B i+C i*m)->(l.map A).sum+(l.map C).sum=(l.map B).sum+(l.map C).sum*m|[],_=>by simp|i::l,h=>by have a:=Iz A B C m l λj c=>h j (dW _ c);have b:=h i d4;simp only[d7,List.sum_cons,Nat.add_mul];lia
theorem Jm(A B:Nat->Nat):∀l:List Nat,(∀i∈l,A i<=B i)->(l.map A).sum<=(l.map B).sum|[],_=>by simp|i::l,h=>by have a:=Jm A B l λj c=>h j (dW _ c);have b:=h i d4;simp only[d7,List.sum_cons];lia
theorem Ll(A B:Nat->Nat)(m:Nat):∀l:List Nat,(∀i∈l,A i<=B i+m)->jF (l.map A)<=jF (l.map B)+m|[],_=>by simp[jF]|i::l,h=>by have a:=Ll A B m l λj c=>h j (dW _ c);have b:=h i d4;simp only[d7,jF];lia
theorem gs{o:D}{at_:Int}(l:0<=at_)(j:bu aw false o=true)(f:depth o<58):∀(n:Nat)(b:Int)(d:D)(k:Bool),0<=b->depth d<n->bu aw k d=true->bu aw k (lX (lI o at_) n b d)=true/\aC (lX (lI o at_) n b d)+xt at_ n b d=aC d+xt at_ n b d*aC o/\depth (lX (lI o at_) n b d)<=depth d+depth o/\xt at_ n b d<=aC d
 |0,_,_,_,_,h,_=>absurd h (Nat.not_lt_zero _)
 |n+1,b,d,k,hb,hd,wf=>by
  obtain⟨x,ps,rfl⟩:=cz wf;by_cases q:x="var"
  ·subst q;obtain⟨i,rfl,hi,rfl⟩:=Ir wf;have e:lX (lI o at_) (n+1) b (.tup [.str "var", .int i])=if b<=i then lI o at_ (i-b) b else .tup [.str "var", .int i]:=by rw[lX,if_pos rfl]
   have m:xt at_ (n+1) b (.tup [.str "var", .int i])=if i=at_+b then 1 else 0:=by rw[xt,if_pos rfl]
   have k1:∀z:Int,aC (.tup [.str "var", .int z])=1/\depth (.tup [.str "var", .int z])=1:=λz=>⟨by simp[aC,aL],by simp[depth,aD]⟩;rw[e,m,(k1 i).1,(k1 i).2];by_cases c:b<=i
   ·rw[if_pos c];unfold lI;by_cases c2:i-b=at_;·rw[if_pos c2,if_pos (show i=at_+b by lia)];obtain⟨a1,a2,a3⟩:=oV (low:=0) hb 58 0 o false (Int.le_refl 0) f j;rw[a2,a3];exact⟨a1,by lia,by lia,bK _⟩
    ·rw[if_neg c2,if_neg (show¬i=at_+b by lia),(k1 _).1,(k1 _).2];refine⟨BA ?_,by lia,by lia,eB _⟩;split<;>lia
   ·rw[if_neg c,if_neg (show¬i=at_+b by lia),(k1 _).1,(k1 _).2];exact⟨wf,by lia,by lia,eB _⟩
  ·have e:lX (lI o at_) (n+1) b (.tup (.str x::ps))=cB x ps ((List.range (az x ps).length).map λi=>lX (lI o at_) n (b+qT x i) (((az x ps)[i]?).getD .aW)):=by
    conv=>lhs;unfold lX
    exact if_neg q
   have m:xt at_ (n+1) b (.tup (.str x::ps))=((List.range (az x ps).length).map λi=>xt at_ n (b+qT x i) (((az x ps)[i]?).getD .aW)).sum:=by
    conv=>lhs;unfold xt
    exact if_neg q
   rw[e,m];have each:∀(i:Nat),i∈List.range (az x ps).length->∃p a,(az x ps)[i]?=some p/\depth p<depth (.tup (.str x::ps))/\bu aw a p=true:=λi hi=>by obtain⟨p,hp⟩:∃p,(az x ps)[i]?=some p:=⟨_,gM (List.mem_range.mp hi)⟩;obtain⟨⟨a,w1⟩,g⟩:=jo wf hp;exact⟨p,a,hp,g,w1⟩
   obtain⟨q1,q2⟩:=GS wf;obtain⟨r,s⟩:=Mf wf λi=>lX (lI o at_) n (b+qT x i) (((az x ps)[i]?).getD .aW);rw[r,s,q1,q2];refine⟨DT wf _ λi p c e1 e2 e3=>?_,?_,?_,?_⟩;·obtain⟨w1,g⟩:=jo wf e1;obtain⟨a,h1,h2⟩:=RA e2 e3;rw[e1];exact h2 _ (gs l j f n (b+qT x i) p a (by have :=lN x i;lia) (by lia) h1).1
   ·have :=Iz (λi=>aC (lX (lI o at_) n (b+qT x i) (((az x ps)[i]?).getD .aW))) (λi=>aC (((az x ps)[i]?).getD .aW)) (λi=>xt at_ n (b+qT x i) (((az x ps)[i]?).getD .aW)) (aC o) (List.range (az x ps).length) λi hi=>by obtain⟨p,a,hp,g,w1⟩:=each i hi;simp only[hp,Option.getD_some];exact(gs l j f n (b+qT x i) p a (by have :=lN x i;lia) (by lia) w1).2.1
    lia
   ·have :=Ll (λi=>depth (lX (lI o at_) n (b+qT x i) (((az x ps)[i]?).getD .aW))) (λi=>depth (((az x ps)[i]?).getD .aW)) (depth o) (List.range (az x ps).length) λi hi=>by obtain⟨p,a,hp,g,w1⟩:=each i hi;simp only[hp,Option.getD_some];exact(gs l j f n (b+qT x i) p a (by have :=lN x i;lia) (by lia) w1).2.2.1
    lia
   ·have :=Jm (λi=>xt at_ n (b+qT x i) (((az x ps)[i]?).getD .aW)) (λi=>aC (((az x ps)[i]?).getD .aW)) (List.range (az x ps).length) λi hi=>by obtain⟨p,a,hp,g,w1⟩:=each i hi;simp only[hp,Option.getD_some];exact(gs l j f n (b+qT x i) p a (by have :=lN x i;lia) (by lia) w1).2.2.2
    lia
end K23
end
section
namespace K23
open PySem L2 L3 KM PyProof.Rows
seal L2.PE L2.PS L2.iz L2.PT L2.PW L2.PA L2.PG L2.AR L2.PI L2.PC L2.PO L2.An L2.PK L3.AV L3.PH L3.PB
variable{P:Program}{w:World}{K:PySem.W.Frag}{mg:Str->Option Value}{base:Heap}{t:wY}
theorem K2(pl:List Nat):Su (zJ pl)=WX pl:=by unfold Su zJ WX;rw[List.map_map];rfl
inductive Kj(B:Str->D):D->Str->D->Bool->Prop|fn{k bd o:D}:Wf bd->Wf o->depth bd<58->depth o<58->Rz (Bh o 0 bd) 100->Kj B (.tup [.str "app", .tup [.str "fun",k,bd],o]) "fun" (Bh o 0 bd) (eL (Bh o 0 bd))|zero{k b s n:D}:Kj B (.tup [.str "rec",k,b,s,n]) "zero" b false|Ze{k x l:D}:Kj B (.tup [.str "carry",k,x,l]) "like" x false|next{k b s n:D}:Kj B (.tup [.str "rec",k,b,s, .tup [.str "next",n]]) "next" (.tup [.str "app", .tup [.str "app",s,n], .tup [.str "rec",k,b,s,n]]) false|first{k a b:D}:Kj B (.tup [.str "first", .tup [.str "pair",k,a,b]]) "first" a false|second{k a b:D}:Kj B (.tup [.str "second", .tup [.str "pair",k,a,b]]) "second" b false|name{y:Str}:Kj B (.tup [.str "name", .str y]) "name" (B y) false
def Nz(H:Hp)(aH:List (Key×V))(B:Str->D):Prop:=∀y:Str,e9 aH y=true->∃(q:Addr)(b a:V),fb aH (Sum.inr y:Key)=some (.ref q)/\H q=some (.tup [b,a])/\Rep H (B y) a
theorem Nz.mono{H H':Hp}{aH:List (Key×V)}{B:Str->D}(h:Nz H aH B)(s:aM H H'):Nz H' aH B:=λy d=>let⟨q,e,f,a,b,c⟩:=h y d;⟨q,e,f,a,s _ _ b,c.mono s⟩
theorem Az{inb:Str->Bool}{y:Str}(h:bI inb (.tup [.str "name", .str y])= .str "name"):inb y=true:=by cases e:inb y with|true=>rfl|false=>simp[bI,eP,EO,e]at h
structure FR(H:Hp)(T1 T2:Addr):Prop where
 t1:jI H T1 Ft Ew
 t2:jI H T2 AS Av
theorem FR.mono{H H':Hp}{T1 T2:Addr}(h:FR H T1 T2)(s:aM H H'):FR H' T1 T2:=⟨h.t1.mono s,h.t2.mono s⟩
def Ac:Sp:=λvs H Q _=>∃(k b s n:D)(v:V),vs=[v]/\Rep H (.tup [.str "rec",k,b,s, .tup [.str "next",n]]) v/\∀(z:V)(H':Hp),aM H H'->Rep H' (.tup [.str "app", .tup [.str "app",s,n], .tup [.str "rec",k,b,s,n]]) z->Q z H'
theorem ly:aT ["thing","number"] ["thing"] (ar gg):=⟨rfl,rfl,rfl,by decide+kernel,rfl,by decide+kernel,by decide+kernel⟩
theorem CF(D:Df K mg "after_next" gg ["thing"])(M:Mg mg t):bp P w K mg bE "after_next" (1) ["thing"] Ac:=by
 refine D.ok ly (λvs H Q E h=>?_) (λbase f cS A outer s H vs Q E W h=>?_);·obtain⟨k,b,s,n,v,rfl,_⟩:=h;rfl
 obtain⟨k,b,s,n,v,rfl,N,q⟩:=h;refine⟨_,(ai (aF (i:=1) ly.nd rfl (bY rfl) (aP aR (aP aR (pv 0) ah (λ_ _=>rfl)) ah (λ_ _=>rfl))) (aj (ay (av (ae ao (ae (av (ae ao (ae (aP aR (pv 0) ah (λ_ _=>rfl)) (ae (pv 1) ag)))) (ae (aS tN (jS Jl (pv 0) dz (fF ah)) (av (ae (pv 1) ag))) ag))))))),?_⟩;try dsimp only[gu,U]
 refine pb ?_;intro _ _;obtain⟨a,us,rfl,ha,v0,us,rfl,⟨rfl,B⟩,v1,us,rfl,I,X,us,rfl,J,l,us,rfl,p,Y,us,rfl,L,g⟩:=N;cases(show us=[]from g);obtain⟨c,ws,rfl,hc,w0,ws,rfl,⟨rfl,_⟩,w1,ws,rfl,r,g⟩:=id L;cases(show ws=[]from g);refine⟨_,rfl,a,_,_,_,rfl,rfl,bS.of ha,aE (j:=4) rfl,c,_,_,_,rfl,rfl,bS.of hc,aE (j:=1) rfl,?_⟩;refine⟨_,rfl,a,_,_,_,rfl,rfl,bS.of ha,aE (j:=3) rfl,_,rfl,(cN rfl),λe m=>?_⟩;have s1:=aq m (.tup [V.str "app",l,w1]);have u:Rep (upd H e (.tup [V.str "app",l,w1])) (.tup [.str "app",s,n]) (.ref e):=eC m (rs ir (rs p (rs r r0)));generalize upd H e (.tup [V.str "app",l,w1])=R at s1 u⊢;refine⟨_,rfl,_,rfl,a,_,rfl,s1 _ _ ha,λC S s2 h2=>?_⟩;rw[show(4:Int)=((4:Nat):Int)from rfl,KU]at h2;refine⟨_,rfl,(cN rfl),λF z=>?_⟩;have y:=aq z (.tup [w1]);refine⟨C,F,_,_,rfl,rfl,y _ _ h2,ak,(by rw[sizeLine_eq];show 4+1<=16777216;decide),λG T O h4=>⟨(cN rfl),λp5 o=>?_⟩⟩;have x:=s2.trans (y.trans O);have d:=s1.trans x;refine q _ _ (d.trans (aq o _)) (eC o (rs ir (rs (u.mono x) (rs ⟨G,_,rfl,h4,?_⟩ r0))));exact rs ⟨rfl,B⟩ (rs (I.mono d) (rs (J.mono d) (rs (p.mono d) (rs (r.mono d) r0))))
def IY(G T1 T2:Addr):Sp:=λvs H Q E=>∃(B:Str->D)(e e':D)(v:V)(r:Str)(b:Addr)(aH:List (Key×V))(g:Bool),vs=[v, .str r, .ref b]/\Rep H e v/\Kj B e r e' g/\FR H T1 T2/\H b=some (.dK aH)/\Nz H aH B/\bI (e9 aH) e= .str r/\(∀(z:V)(H':Hp),aM H H'->g=false->Rep H' e' z->Q z H')/\(∀H',aM H H'->g=true->E (.ref G) none H')
theorem zt:aT ["thing","rule","book"] ["thing","rule","book"] (ar f_):=⟨rfl,rfl,rfl,by decide+kernel,rfl,by decide+kernel,by decide+kernel⟩
theorem CA{T1 T2:Addr}(D:Df K mg "after_rule" f_ ["thing","rule","book"])(M:Mg mg t)(G:bp P w K mg (gv P w) "put_in" (126) ["thing","other","at"] (Ls t.cx T1 T2))(F:bp P w K mg bE "after_next" (1) ["thing"] Ac):bp P w K mg (gv P w) "after_rule" (127) ["thing","rule","book"] (IY t.cx T1 T2):=by
 refine D.Sf zt (λvs H Q E h=>?_) (λbase f cS A outer s H vs Q E n h=>?_);·obtain⟨B,e,e',v,r,b,aH,g,rfl,_⟩:=h;rfl
 obtain⟨B,e,e',v,r,b,aH,g,rfl,k,ha,u,hb,L,N,q,R⟩:=h;have O:=x_ n;refine⟨_,(ai (ba (aI bR (pv 1) ao (aQ _)) (aj (ay (aJ G n.m rfl dN (ae (aP aR (aP aR (pv 0) ah (λ_ _=>rfl)) ah (λ_ _=>rfl)) (ae (aP aR (pv 0) ah (λ_ _=>rfl)) (ae ah ag)))))) aO) (ai (ba (aI bR (pv 1) ao (aQ _)) (aj (ay (aJ F n.m rfl aK (ae (pv 0) ag)))) aO) (ai (ba (aI bR (pv 1) ao (aQ _)) (aj (ay (aP aR (aP aR (pv 0) ah (λ_ _=>rfl)) ah (λ_ _=>rfl)))) aO) (ai (ba (aI bR (pv 1) ao (aQ _)) (aj (ay (aP aR (aP aR (pv 0) ah (λ_ _=>rfl)) ah (λ_ _=>rfl)))) aO) (ai (ba (aI bR (pv 1) ao (aQ _)) (aj (ay (aP aR (xf O (pv 2) (aP aR (pv 0) ah (λ_ _=>rfl)) (λ_ _=>rfl)) ah (λ_ _=>rfl)))) aO) (aj (ay (aP aR (pv 0) ah (λ_ _=>rfl))))))))),?_⟩;try dsimp only[gu,Y]
 refine MU ?_;intro _ _ _ _ _ _;cases ha with|fn W X J I rz=>obtain⟨a,us,rfl,ha,v0,us,rfl,⟨rfl,_⟩,v1,us,rfl,i,o,us,rfl,l,d⟩:=k;cases(show us=[]from d);obtain⟨c,ws,rfl,hc,w0,ws,rfl,⟨rfl,_⟩,w1,ws,rfl,C,p,ws,rfl,m,d⟩:=i;cases(show ws=[]from d);refine⟨_,rfl,rfl,_,rfl,aY (λ_=>?_) (λc=>absurd (decide_eq_true rfl) c)⟩;refine⟨_,rfl,a,_,_,_,rfl,rfl,bS.of ha,aE (j:=1) rfl,c,_,_,_,rfl,rfl,bS.of hc,aE (j:=2) rfl,_,rfl,a,_,_,_,rfl,rfl,bS.of ha,aE (j:=2) rfl,?_⟩;exact⟨_,_,p,o,0,rfl,⟨m,l,W,X,J,I,rz,u.t1,u.t2⟩,q,R⟩|zero=>obtain⟨a,us,rfl,ha,v0,us,rfl,⟨rfl,_⟩,v1,us,rfl,i,o,us,rfl,l,U,us,rfl,T,v4,us,rfl,r4,d⟩:=k;cases(show us=[]from d);refine⟨_,rfl,rfl,_,rfl,aY (λc=>absurd (of_decide_eq_true c) (by decide+kernel)) (λ_=>?_)⟩;refine⟨_,rfl,rfl,_,rfl,aY (λc=>absurd (of_decide_eq_true c) (by decide+kernel)) (λ_=>?_)⟩;refine⟨_,rfl,rfl,_,rfl,aY (λc=>absurd (of_decide_eq_true c) (by decide+kernel)) (λ_=>?_)⟩;refine⟨_,rfl,rfl,_,rfl,aY (λc=>absurd (of_decide_eq_true c) (by decide+kernel)) (λ_=>?_)⟩;refine⟨_,rfl,rfl,_,rfl,aY (λc=>absurd (of_decide_eq_true c) (by decide+kernel)) (λ_=>?_)⟩;exact⟨_,rfl,a,_,_,_,rfl,rfl,bS.of ha,aE (j:=2) rfl,q _ H (aM.refl H) rfl l⟩|Ze=>obtain⟨a,us,rfl,ha,v0,us,rfl,⟨rfl,_⟩,v1,us,rfl,i,o,us,rfl,l,U,us,rfl,T,d⟩:=k;cases(show us=[]from d);refine⟨_,rfl,rfl,_,rfl,aY (λc=>absurd (of_decide_eq_true c) (by decide+kernel)) (λ_=>?_)⟩;refine⟨_,rfl,rfl,_,rfl,aY (λc=>absurd (of_decide_eq_true c) (by decide+kernel)) (λ_=>?_)⟩;refine⟨_,rfl,rfl,_,rfl,aY (λc=>absurd (of_decide_eq_true c) (by decide+kernel)) (λ_=>?_)⟩;refine⟨_,rfl,rfl,_,rfl,aY (λc=>absurd (of_decide_eq_true c) (by decide+kernel)) (λ_=>?_)⟩;refine⟨_,rfl,rfl,_,rfl,aY (λc=>absurd (of_decide_eq_true c) (by decide+kernel)) (λ_=>?_)⟩;exact⟨_,rfl,a,_,_,_,rfl,rfl,bS.of ha,aE (j:=2) rfl,q _ H (aM.refl H) rfl l⟩|next=>refine⟨_,rfl,rfl,_,rfl,aY (λc=>absurd (of_decide_eq_true c) (by decide+kernel)) (λ_=>?_)⟩;refine⟨_,rfl,rfl,_,rfl,aY (λ_=>?_) (λc=>absurd (decide_eq_true rfl) c)⟩;exact⟨_,rfl,_,_,_,_,v,rfl,k,λz H' s' S=>q z H' s' rfl S⟩|first=>obtain⟨a,us,rfl,ha,v0,us,rfl,⟨rfl,_⟩,v1,us,rfl,i,d⟩:=k;cases(show us=[]from d);obtain⟨c,ws,rfl,hc,w0,ws,rfl,⟨rfl,_⟩,w1,ws,rfl,C,p,ws,rfl,m,V,ws,rfl,x,d⟩:=i;cases(show ws=[]from d);refine⟨_,rfl,rfl,_,rfl,aY (λc=>absurd (of_decide_eq_true c) (by decide+kernel)) (λ_=>?_)⟩;refine⟨_,rfl,rfl,_,rfl,aY (λc=>absurd (of_decide_eq_true c) (by decide+kernel)) (λ_=>?_)⟩;refine⟨_,rfl,rfl,_,rfl,aY (λ_=>?_) (λc=>absurd (decide_eq_true rfl) c)⟩;exact⟨_,rfl,a,_,_,_,rfl,rfl,bS.of ha,aE (j:=1) rfl,c,_,_,_,rfl,rfl,bS.of hc,aE (j:=2) rfl,q _ H (aM.refl H) rfl m⟩|second=>obtain⟨a,us,rfl,ha,v0,us,rfl,⟨rfl,_⟩,v1,us,rfl,i,d⟩:=k;cases(show us=[]from d);obtain⟨c,ws,rfl,hc,w0,ws,rfl,⟨rfl,_⟩,w1,ws,rfl,C,p,ws,rfl,m,V,ws,rfl,x,d⟩:=i;cases(show ws=[]from d);refine⟨_,rfl,rfl,_,rfl,aY (λc=>absurd (of_decide_eq_true c) (by decide+kernel)) (λ_=>?_)⟩;refine⟨_,rfl,rfl,_,rfl,aY (λc=>absurd (of_decide_eq_true c) (by decide+kernel)) (λ_=>?_)⟩;refine⟨_,rfl,rfl,_,rfl,aY (λc=>absurd (of_decide_eq_true c) (by decide+kernel)) (λ_=>?_)⟩;refine⟨_,rfl,rfl,_,rfl,aY (λ_=>?_) (λc=>absurd (decide_eq_true rfl) c)⟩;exact⟨_,rfl,a,_,_,_,rfl,rfl,bS.of ha,aE (j:=1) rfl,c,_,_,_,rfl,rfl,bS.of hc,aE (j:=3) rfl,q _ H (aM.refl H) rfl x⟩|name=>rename_i y;obtain⟨a,us,rfl,ha,v0,us,rfl,⟨rfl,_⟩,v1,us,rfl,⟨rfl,Z⟩,d⟩:=k;cases(show us=[]from d);obtain⟨q1,kv,tv,e1,e2,e3⟩:=L y (Az N);refine⟨_,rfl,rfl,_,rfl,aY (λc=>absurd (of_decide_eq_true c) (by decide+kernel)) (λ_=>?_)⟩;refine⟨_,rfl,rfl,_,rfl,aY (λc=>absurd (of_decide_eq_true c) (by decide+kernel)) (λ_=>?_)⟩;refine⟨_,rfl,rfl,_,rfl,aY (λc=>absurd (of_decide_eq_true c) (by decide+kernel)) (λ_=>?_)⟩;refine⟨_,rfl,rfl,_,rfl,aY (λc=>absurd (of_decide_eq_true c) (by decide+kernel)) (λ_=>?_)⟩;refine⟨_,rfl,rfl,_,rfl,aY (λ_=>?_) (λc=>absurd (decide_eq_true rfl) c)⟩;exact⟨_,rfl,_,rfl,a,_,_,_,rfl,rfl,bS.of ha,aE (j:=1) rfl,b,_,rfl,(.inl ⟨aH,Sum.inr y, .inl hb,rfl,e1.symm⟩),q1,_,_,_,rfl,rfl,bS.of e2,aE (j:=1) rfl,q _ H (aM.refl H) rfl e3⟩
structure TM(inb:Str->Bool)(B:Str->D)(d:D)(pl:List Int)(r:Str)(e':D)(g:Bool):Prop where
 ex:∃e,goto d pl=some e/\Wf e/\bI inb e= .str r/\Kj B e r e' g
 wf:Wf d
 ln:pl.length<100
 rz:Rz (putD d pl e') 100
def Hf(G T1 T2:Addr):Sp:=λvs H Q E=>∃(B:Str->D)(d e':D)(v pw:V)(pl:List Int)(b:Addr)(aH:List (Key×V))(r:Str)(g:Bool),vs=[v,pw, .ref b]/\Rep H d v/\Rep H (Su pl) pw/\H b=some (.dK aH)/\Nz H aH B/\TM (e9 aH) B d pl r e' g/\FR H T1 T2/\(∀(z:V)(H':Hp),aM H H'->(g||eL (putD d pl e'))=false->Rep H' (putD d pl e') z->Q z H')/\(∀H',aM H H'->(g||eL (putD d pl e'))=true->E (.ref G) none H')
theorem lL:aT ["thing","place","book","here","rule"] ["thing","place","book"] (ar kK):=⟨rfl,rfl,rfl,by decide+kernel,rfl,by decide+kernel,by decide+kernel⟩
theorem LS{T1 T2:Addr}(D:Df K mg "stepped" kK ["thing","place","book"])(M:Mg mg t)(S:nM K t.jG)(U:bp P w K mg (gv P w) "at_place" (3) ["thing","place"] (acY t.cb))(V:bp P w K mg bE "rule_of" (1) ["thing","book"] oG)(W:bp P w K mg (gv P w) "with_at" (105) ["thing","place","new"] (Vz t.cb t.cx 100))(T:bp P w K mg (gv P w) "after_rule" (127) ["thing","rule","book"] (IY t.cx T1 T2)):bp P w K mg (gv P w) "stepped" (128) ["thing","place","book"] (Hf t.cx T1 T2):=by
 refine D.Sf lL (λvs H Q E h=>?_) (λbase f cS A outer s H vs Q E l h=>?_);·obtain⟨B,d,e',v,pw,pl,b,aH,r,g,rfl,_⟩:=h;rfl
 obtain⟨B,d,e',v,pw,pl,b,aH,r,g,rfl,rd,O,hb,Y,ok,Z,q,L⟩:=h;obtain⟨⟨e,p,we,J,ha⟩,R,hl,rz⟩:=ok;refine⟨_,(ai (aF (i:=3) lL.nd rfl (bY rfl) (aJ U l.m rfl dN (ae (pv 0) (ae (pv 1) ag)))) (ai (aF (i:=4) lL.nd rfl (bY rfl) (aJ V l.m rfl aK (ae (pv 3) (ae (pv 2) ag)))) (ai (ba (aI Xs (pv 4) iu (aQ _)) (aj (l_ (G:=(λH'=>E (.ref t.jG) none H')) S M.g_NoStep (ae ao ag) (λpins σ H s e h' I m q=>xh I m q))) aO) (aj (ay (aJ W l.m rfl dN (ae (pv 0) (ae (pv 1) (ae (aJ T l.m rfl dN (ae (pv 3) (ae (pv 4) (ae (pv 2) ag)))) ag))))))))),?_⟩;try dsimp only[gu,cH]
 refine A9 ?_;intro _ _ _ _;refine⟨_,rfl,_,rfl,d,v,pl,pw,rfl,rd,R,O,λe1 u X s1 a N=>?_,λX s1 a=>by rw[p]at a;cases a⟩;rw[p]at a;cases a;refine⟨_,rfl,_,rfl,e,u,b,aH,rfl,N,we,s1 _ _ hb,λH2 s2=>?_⟩;rw[J];refine⟨_,rfl,rfl,_,rfl,aY (λc=>absurd c (by simp)) (λ_=>?_)⟩;have j:=s1.trans s2;refine⟨_,rfl,_,rfl,_,rfl,_,rfl,_,rfl,B,e,e',u,r,b,aH,g,rfl,N.mono s2,ha,Z.mono j,j _ _ hb,Y.mono j,J,λz C y F r3=>?_,λC y QF=>L C (j.trans y) (by rw[QF];rfl)⟩;have n:=j.trans y;refine⟨d,v,pl,pw,e',z,rfl,rd.mono n,R,O.mono n,r3,hl,λ_=>rz,λu' k o _ x r4=>q u' k (n.trans o) (by rw[F];exact x) r4,(λk o h4=>by rw[p]at h4;cases h4),λk o _ x=>L k (n.trans o) (by rw[F];exact x)⟩
inductive Out|ok(d:D)|great|dry
noncomputable def Run(inb:Str->Bool)(B:Str->D)(res:Out):Nat->List qU->D->Prop|f,[],d=>(dy inb d=none/\res= .ok d)\/∃r:qU,dy inb d=some r/\((f=0/\res= .dry)\/(0<f/\res= .great/\∃(e':D)(g:Bool),TM inb B d (zJ r.1) r.2 e' g/\(g||eL (putD d (zJ r.1) e'))=true))|f,r::rs,d=>0<f/\∃(e':D)(g:Bool),dy inb d=some r/\TM inb B d (zJ r.1) r.2 e' g/\(g||eL (putD d (zJ r.1) e'))=false/\Run inb B res (f-1) rs (putD d (zJ r.1) e')
def Ep(G a T1 T2:Addr):Sp:=λvs H Q E=>∃(B:Str->D)(d:D)(v:V)(fuel:Nat)(b:Addr)(aH:List (Key×V))(rs:List qU)(res:Out),vs=[v, .int (fuel:Nat), .ref b]/\Rep H d v/\Rz d 60/\H b=some (.dK aH)/\Nz H aH B/\Run (e9 aH) B res fuel rs d/\rs.length<=1000/\FR H T1 T2/\(∀(d':D)(p lg:Addr)(us:List V)(u:V)(H':Hp),res= .ok d'->aM H H'->H' p=some (.tup [u, .ref lg])->H' lg=some (.lst us)->bz H' (rs.map Mo) us->Rep H' d' u->H lg=none->Q (.ref p) H')/\(res= .great->∀H',aM H H'->E (.ref G) none H')/\(res= .dry->∀H',aM H H'->E (.ref a) none H')
theorem Em{H:Hp}{d:D}{v:V}(h:Rep H d v):bz H [d] [v]:=⟨v,[],rfl,h,rfl⟩
theorem pC{d:D}(h:eL d=false):depth d<=40/\aC d<=600:=by have h:(dw d||eI d)=false:=h;rw[Bool.or_eq_false_iff]at h;have h:=h.1;unfold dw at h;simp at h;lia
theorem gw:aT ["thing","fuel","book","here","log","step"] ["thing","fuel","book"] (ar mH):=⟨rfl,rfl,rfl,by decide+kernel,rfl,by decide+kernel,by decide+kernel⟩
theorem Pz{T1 T2:Addr}(D:Df K mg "normal" mH ["thing","fuel","book"])(M:Mg mg t)(acZ:nM K t.Aw)(gk:bp P w K mg bE "first_step" (63) ["thing","book"] (uY 60))(pH:bp P w K mg (gv P w) "stepped" (128) ["thing","place","book"] (Hf t.cx T1 T2)):bp P w K mg (gv P w) "normal" (129) ["thing","fuel","book"] (Ep t.cx t.Aw T1 T2):=by
 refine D.Sf gw (λvs H Q E h=>?_) (λbase f cS A outer s H vs Q E Z h=>?_);·obtain⟨B,d,v,fuel,b,aH,rs,res,rfl,_⟩:=h;rfl
 obtain⟨B,d,v,fuel,b,aH,rs,res,rfl,rd,rz,hb,hB,adK,hrl,hT,q,qe,qd⟩:=h;refine⟨_,(ai (aF (i:=3) gw.nd rfl (bY rfl) (pv 0)) (ai (aF (i:=4) gw.nd rfl (bY rfl) (cq ag)) (ai (aF (i:=5) gw.nd rfl (bY rfl) (aJ gk Z.m rfl aK (ae (pv 3) (ae (pv 2) ag)))) (ai (xE WE (aI rD (pv 5) iu (aQ _)) (ai (ba (aI QH (bj bC rfl M.gQ eG (ae (pv 4) ag)) (pv 1) (aQ _)) (aj (l_ (G:=(λH'=>E (.ref t.Aw) none H')) acZ M.g_Dry (ae ao ag) (λpins σ H s e h' I m q=>xh I m q))) aO) (ai (aF (i:=3) gw.nd rfl (bY rfl) (aJ pH Z.m rfl dN (ae (pv 3) (ae (aP aR (pv 5) ah (λ_ _=>rfl)) (ae (pv 2) ag))))) (ai (i7 (lx PySem.F.plainAttrs_list PySem.F.slot_list_append PySem.F.type_list_append fj (pv 4) (ae (pv 5) ag))) (aj (aF (i:=5) gw.nd rfl (bY rfl) (aJ gk Z.m rfl aK (ae (pv 3) (ae (pv 2) ag))))))))) (aj (ay (av (ae (pv 3) (ae (pv 4) ag))))))))),?_⟩;try dsimp only[gu,cH]
 refine S7 ?_;intro _ _ _ _ _;refine⟨_,rfl,(cN rfl),λlg Y=>?_⟩;have t1:=aq Y (.lst []);have h1:(upd H lg (.lst [])) lg=some (.lst []):=ak;generalize upd H lg (.lst [])=H1 at t1 h1⊢;refine⟨_,rfl,_,rfl,d,v,b,aH,rfl,rd.mono t1,rz,by decide,t1 _ _ hb,λL H2 s2 f2=>?_⟩;let Iw:Nat->L2.St->Hp->Prop:=λm R H'=>∃(C rest:List qU)(k:KM.D)(u L:V)(us:List V)(fl:Nat),R=[some v,some (.int (fuel:Nat)),some (.ref b),some u,some (.ref lg),some L]/\m=rest.length/\aM H H'/\Rep H' k u/\Rz k 60/\H' lg=some (.lst us)/\bz H' (C.map Mo) us/\Run (e9 aH) B res fl rest k/\C.length+fl=fuel/\rs=C++rest/\FsV H' (dy (e9 aH) k) L;refine⟨Iw,⟨_,[],rs,d,v,L,[],fuel,rfl,rfl,t1.trans s2,rd.mono (t1.trans s2),rz,s2 _ _ h1,rfl,adK,Nat.zero_add _,rfl,f2⟩,?_⟩;clear t1 h1 s2 f2 rd rz adK;rintro m R H3⟨C,rest,k,u,L,us,fl,rfl,rfl,l,r3,rz3,h3,W,J,efl,T,N⟩;have lus:=W.length;rw[dI]at lus;have Yc:rs.length=C.length+rest.length:=by rw[T,iJ]
 cases n:dy (e9 aH) k with
  |none=>
   rw[n]at N;cases(show L=V.aW from N);refine⟨_,rfl,rfl,_,rfl,aY (λc=>absurd c (by decide)) (λ_=>?_)⟩;refine⟨_,rfl,_,rfl,(cN rfl),λp hp=>?_⟩;have tp:=aq hp (.tup [u, .ref lg]);cases rest with
    |cons r O=>obtain⟨_,e',g,e0,_⟩:=J;rw[n]at e0;cases e0
    |nil=>
     rcases J with⟨_,e0⟩|⟨r,e0,_⟩;·rw[kS]at T;rw[<-T]at W;exact q k p lg us u _ e0 (l.trans tp) ak (tp _ _ h3) (W.mono tp) (r3.mono tp) Y
     ·rw[n]at e0;cases e0
  |some r=>
   rw[n]at N;obtain⟨S,_,rfl,hbq,⟨v1,_,rfl,r1,⟨v2,_,rfl,⟨rfl,hy2⟩,rn⟩⟩⟩:=id N;cases(show _=[]from rn);refine⟨_,rfl,rfl,_,rfl,aY (λ_=>?_) (λc=>absurd rfl c)⟩;have YQ:Rep H3 (Su (zJ r.1)) v1:=by rw[K2];exact r1
   have hb3:=l _ _ hb;refine⟨λR H'=>∃m',m'<rest.length/\Iw m' R H',λR H' h=>h,?_⟩;refine⟨_,rfl,lg,us,rfl, .inl (bH.of h3),_,rfl,_,_,rfl,rfl,_,rfl,aY (λc=>?_) (λc=>?_)⟩
   ·have c:((fuel:Nat):Int)<=((us.length:Nat):Int):=of_decide_eq_true c;cases rest with
     |cons r' O=>have :=J.1;lia
     |nil=>
      rcases J with⟨e0,_⟩|⟨r',e0,⟨_,er⟩|⟨h0,_⟩⟩;·rw[n]at e0;cases e0
      ·exact⟨by decide,qd er H3 l⟩
      ·lia
   have c:¬((fuel:Nat):Int)<=((us.length:Nat):Int):=of_decide_eq_false (Bool.eq_false_iff.mpr c);refine⟨_,rfl,_,rfl,S,_,_,_,rfl,rfl,bS.of hbq,aE (j:=0) rfl,_,rfl,?_⟩;cases rest with
    |nil=>
     rcases J with⟨e0,_⟩|⟨r',e0,⟨h0,_⟩|⟨_,SM,e',g,ok,U⟩⟩;·rw[n]at e0;cases e0
     ·lia
     ·rw[n]at e0;cases e0;exact⟨B,k,e',u,v1,zJ r.1,b,aH,r.2,g,rfl,r3,YQ,hb3,hB.mono l,ok,hT.mono l,(λz y x F r4=>by rw[U]at F;cases F),λy x _=>qe SM y (l.trans x)⟩
    |cons r' O=>
     obtain⟨SV,e',g,e0,ok,F,XW⟩:=J;rw[n]at e0;cases e0;refine⟨B,k,e',u,v1,zJ r.1,b,aH,r.2,g,rfl,r3,YQ,hb3,hB.mono l,ok,hT.mono l,λz y x _ r4=>?_,λy x U=>by rw[F]at U;cases U⟩;have hg2:eL (putD k (zJ r.1) e')=false:=by rw[Bool.or_eq_false_iff]at F;exact F.2
     obtain⟨k1,k2⟩:=pC hg2;have rz4:Rz (putD k (zJ r.1) e') 60:=⟨ok.rz.wf,by lia,by lia⟩;have h4:=x _ _ h3;have sv4:Rep y (Mo r) (.ref S):=Rep.mono x N;refine⟨_,rfl, .inl ⟨rfl,_,bH.of h4⟩,_,rfl,lg,us,_,rfl,rfl,h4,(by rw[sizeLine_eq];lia),?_⟩;have s34:=l.trans x;have aeL:H lg=none:=Y;have sH:aM H (upd y lg (.lst (us++[.ref S]))):=λa o ha=>by rw[aZ (aX ha aeL)];exact s34 _ _ ha
     refine⟨_,rfl,_,rfl,_,z,b,aH,rfl,r4.gX h4,rz4,by decide,sH _ _ hb,λsv' H6 X f6=>?_⟩;refine⟨_,by show O.length<O.length+1;lia,C++[r],O,_,z,sv',us++[.ref S],fl-1,rfl,rfl,sH.trans X,(r4.gX h4).mono X,rz4,X _ _ ak,?_,XW,by rw[iJ,EY];lia,by rw[T,List.append_assoc];rfl,f6⟩;rw[pG];refine bz.mono X ?_;exact((W.mono x).append (Em sv4)).gX h4
theorem TZ(x:Str):Vu (.str x) ((["var","name"]:List Str).map V.str)=cZ x:=by rw[yy];unfold cZ;rw[Bool.eq_iff_iff];simp
theorem EN:aT ["_law_thing_here"] ["_law_thing_here"] (ar iZ):=⟨rfl,rfl,rfl,by decide+kernel,rfl,by decide+kernel,by decide+kernel⟩
theorem Gn(D:Df K mg "_law_kids" iZ ["_law_thing_here"])(M:Mg mg t):bp P w K mg bE "_law_kids" (1) ["_law_thing_here"] eS:=by
 refine D.ok EN (λvs H Q E h=>?_) (λbase f cS A outer s H vs Q E u h=>?_);·obtain⟨x,ps,v,rfl,_⟩:=h;rfl
 obtain⟨x,ps,v,rfl,r,hl,q⟩:=h;obtain⟨a,us,rfl,ha,v0,us,rfl,⟨rfl,y⟩,e⟩:=r;have o:=e.length;have g:lP (V.str x::us) 0=some (.str x):=aE (j:=0) rfl;refine⟨_,(ai (ba (aI iM (aP aR (pv 0) ah (λ_ _=>rfl)) (av (ae ao (ae ao ag))) rfl) (aj (ay (cq ag))) aO) (aj (ay (fA jE rfl M.AY wR (ae (jS BI (pv 0) (fF ah) dz) ag))))),?_⟩;try dsimp only[gu,n]
 refine pb ?_;intro _ _;refine⟨_,rfl,a,_,_,_,rfl,rfl,bS.of ha,g,(cN rfl),λd i=>⟨d,(["var","name"]:List Str).map V.str,rfl, .inr (bS.of ak),rfl,rfl,_,rfl,?_⟩⟩;have s1:=aq i (.tup [V.str "var", .str "name"]);show if(Vu (.str x) ((["var","name"]:List Str).map V.str))=true then _ else _;rw[TZ];generalize upd H d (.tup [V.str "var", .str "name"])=m at s1⊢;refine aY (λc=>?_) (λc=>?_);·exact⟨eB _,λp hp=>q p [] _ (s1.free hp) (s1.trans (aq hp _)) ak (by unfold az;rw[if_pos c];exact rfl)⟩
 have k:az x ps=ps:=by unfold az;rw[if_neg c]
 rw[k]at q;have b:iX (V.str x::us) (some 1) none=us:=by have :=oz (V.str x::us) 1;simpa using this
 have h1:=s1 _ _ ha;refine⟨_,rfl,_,rfl,a,_,rfl,bS.of h1,λp hp=>?_,λz=>?_⟩;·rw[b];refine⟨p,us,rfl, .inr (bS.of ak),λl hl=>?_⟩;have s2:=s1.trans ((aq hp (.tup us)).trans (aq hl (.lst us)));exact q l us _ (s1.free ((aq hp _).free hl)) s2 ak (e.mono s2)
 ·rw[b]at z;exact absurd (congrArg List.length z) (by simp)
theorem Aa:∀(l:List Nat)(a:Nat),jF (l++[a])=max (jF l) a|[],a=>by show max a 0=max 0 a;lia|b::l,a=>by show max b (jF (l++[a]))=max (max b (jF l)) a;rw[Aa l a];lia
theorem Ah:∀(ds:List D)(e:D),gC (ds++[e])=(gC ds||eI e)|[],e=>by show(eI e||false)=(false||eI e);rw[Bool.or_false,Bool.false_or]|d::ds,e=>by rw[List.cons_append,gC,Ah ds e,gC,Bool.or_assoc]
theorem TQ{x:Str}{ps:List D}{k:Bool}(wf:bu aw k (.tup (.str x::ps))=true)(m:Nat)(hm:m=(az x ps).length):((if x="var"then eI (.tup (.str x::ps))else false)||gC ((az x ps).take m))=eI (.tup (.str x::ps)):=by
 rw[hm,List.take_length];by_cases b:x="var"
 ·rw[if_pos b];have :az x ps=[]:=by unfold az;rw[if_pos (by rw[b];decide+kernel)]
  rw[this];show(_||false)=_;rw[Bool.or_false]
 ·rw[if_neg b,Bool.false_or];by_cases c:cZ x=true
  ·have e:az x ps=[]:=by unfold az;rw[if_pos c]
   rw[e];have f:∀a:List D,(∀p∈a,eI p=false)->gC a=false:=λa=>by induction a with|nil=>intro _;rfl|cons q a d=>intro h;rw[gC,h q d4,d λp hp=>h p (dW _ hp)];rfl
   have :gC ps=false:=f ps λp hp=>by obtain⟨i,hi,e⟩:=List.mem_iff_getElem.mp hp;exact Ee wf c b i p (by rw[gM hi,e])
   show false=(false||gC ps);rw[this];rfl
  ·have e:az x ps=ps:=by unfold az;rw[if_neg c]
   rw[e];show gC ps=(false||gC ps);rw[Bool.false_or]
def oI(n:Nat):Sp:=λvs H Q _=>∃(d:D)(v:V),vs=[v]/\Rep H d v/\Rz d n/\∀(q:Addr)(c:Int)(H':Hp),aM H H'->-1<=c->decide (99<c)=eI d->H' q=some (.tup [.int (aC d:Nat), .int (depth d:Nat), .int c])->Q (.ref q) H'
theorem bJ:aT ["_law_thing_here","_law_knots","_law_deep","_law_most","_law_kid","_law_told_here"] ["_law_thing_here"] (ar dM):=⟨rfl,rfl,rfl,by decide+kernel,rfl,by decide+kernel,by decide+kernel⟩
theorem qN{n:Nat}(D:Df K mg "_law_measured" dM ["_law_thing_here"])(M:Mg mg t)(O:bp P w K mg bE "_law_kids" (1) ["_law_thing_here"] eS)(R:bp P w K mg bE "_law_measured" (n+131) ["_law_thing_here"] (oI n)):bp P w K mg bE "_law_measured" (n+132) ["_law_thing_here"] (oI (n+1)):=by
 refine D.ok bJ (λvs H Q E h=>?_) (λbase f cS A outer s H vs Q E B h=>?_);·obtain⟨d,v,rfl,_⟩:=h;rfl
 obtain⟨d,v,rfl,r,rz,q⟩:=h;have hh:=B.hd (by lia);obtain⟨x,ps,k,rfl,wf,X⟩:=kZ rz.wf;have hk4:=C8 wf;obtain⟨a,N,rfl,ha,v0,N,rfl,⟨rfl,hx⟩,rp⟩:=id r;have W:lP (V.str x::N) 0=some (.str x):=aE (j:=0) rfl;refine⟨_,(ai (aF (i:=1) bJ.nd rfl (bY rfl) ah) (ai (aF (i:=2) bJ.nd rfl (bY rfl) ah) (ai (aF (i:=3) bJ.nd rfl (bY rfl) (NS HE ah)) (i8 (ba (aI bR (aP aR (pv 0) ah (λ_ _=>rfl)) ao (aQ _)) (aj (aF (i:=3) bJ.nd rfl (bY rfl) (aP aR (pv 0) ah (λ_ _=>rfl)))) aO) (ai (fz PassesOwn.never rfl (kC (aJ O B.m rfl aK (ae (pv 0) ag))) (bL (i:=4) bJ.nd rfl (bY rfl)) (ai (aF (i:=5) bJ.nd rfl (bY rfl) (aJ R B.m rfl aK (ae (pv 4) ag))) (ai (aF (i:=1) bJ.nd rfl (bY rfl) (aS cE (pv 1) (aP aR (pv 5) ah (λ_ _=>rfl)))) (ai (aF (i:=2) bJ.nd rfl (bY rfl) (bj (oZ hh) rfl M.HX CJ (ae (pv 2) (ae (aP aR (pv 5) ah (λ_ _=>rfl)) ag)))) (aj (aF (i:=3) bJ.nd rfl (bY rfl) (bj (oZ hh) rfl M.HX CJ (ae (pv 3) (ae (aP aR (pv 5) ah (λ_ _=>rfl)) ag))))))))) (aj (ay (av (ae (pv 1) (ae (aS cE (pv 2) ah) (ae (pv 3) ag))))))))))),?_⟩;try dsimp only[gu,cH]
 refine A9 ?_;intro _ _ _ _;refine⟨_,rfl,λl H'=>∃c:Int,l=[some (.ref a),some (.int 1),some (.int 0),some (.int c),none,none]/\-1<=c/\decide (99<c)=(if x="var"then eI (.tup (.str x::ps))else false)/\H'=H,?_,?_⟩
 ·refine⟨_,rfl,a,_,_,_,rfl,rfl,bS.of ha,W,rfl,_,rfl,?_⟩;refine aY (λc=>?_) (λc=>⟨-1,rfl,by decide,by rw[if_neg (λz=>c (by rw[z];exact decide_eq_true rfl))];rfl,rfl⟩);have c:V.str x=V.str "var":=of_decide_eq_true c;cases c;obtain⟨sh,e1,_,e3,_,u,_⟩:=bM wf;rw[eO]at e1;cases e1;rw[xV]at e3 u;obtain⟨g,rfl⟩:∃g,ps=[g]:=by cases ps with|nil=>simp at u|cons g rest=>cases rest with|nil=>exact⟨g,rfl⟩|cons _ _=>simp at u
  rw[aN,cY]at e3;have hn:iB g=true:=by simpa[dg]using e3.1
  obtain⟨i,rfl⟩:∃i,g= .int i:=by cases g<;>first|exact⟨_,rfl⟩|simp[iB]at hn
  obtain⟨u1,YI,rfl,p,_⟩:=rp;cases(show u1=V.int i from p);have hi:0<=i:=by simp[iB]at hn;exact hn
  exact⟨_,rfl,a,_,_, .int i,rfl,rfl,bS.of ha,aE (j:=1) rfl,i,rfl,by lia,by rw[if_pos rfl];simp[eI,gC],rfl⟩
 rintro l H0⟨c,rfl,c0,c1,rfl⟩;refine⟨_,rfl,x,ps,_,rfl,r,X,λZ us S _ s1 h1 p=>⟨Z,rfl,⟨us,bH.of h1⟩,?_⟩⟩;have L:=p.length;have I:=jm wf;let U:Nat->L2.St->Hp->Prop:=(λj l H'=>∃(c:Int)(C F:Option V),l=[some (.ref a),some (.int ((1+(((az x ps).take j).map aC).sum:Nat):Int)),some (.int (jF (((az x ps).take j).map depth):Nat)),some (.int c),C,F]/\-1<=c/\decide (99<c)=((if x="var"then eI (.tup (.str x::ps))else false)||gC ((az x ps).take j))/\aM S H');refine gy us.length U ?_ ?_ ?_;·exact⟨c,none,none,rfl,c0,by rw[c1,List.take_zero,gC,Bool.or_false],aM.refl _⟩
 ·rintro j l T hj⟨c,C,F,rfl,c0,c1,s2⟩;obtain⟨e,m⟩:∃e,(az x ps)[j]?=some e:=⟨_,gM (by lia)⟩;obtain⟨G,J,ruj⟩:=p.get m;refine⟨⟨us,G,bH.of (s2 _ _ h1),J⟩,?_⟩;rintro x' H3⟨rfl,o⟩;have o:=o us (bH.of (s2 _ _ h1));rw[J]at o;cases o;refine⟨_,rfl,e,G,rfl,ruj.mono s2,rz.kid m,λq3 b H4 s4 b0 b1 h4=>?_⟩;have y:=bS.of (K:=K) h4;refine⟨_,rfl,_,rfl,q3,_,_,_,rfl,rfl,y,aE (j:=0) rfl,_,_,rfl,rfl,?_⟩;refine⟨_,rfl,_,rfl,q3,_,_,_,rfl,rfl,y,aE (j:=1) rfl,_,_,rfl,?_⟩;refine⟨_,rfl,_,rfl,q3,_,_,_,rfl,rfl,y,aE (j:=2) rfl,_,_,rfl,?_⟩;refine⟨if b>c then b else c,some G,some (.ref q3),?_,?_,?_,s2.trans s4⟩;rotate_left;·show-1<=(if b>c then b else c);split<;>lia
  ·show decide (99<(if b>c then b else c))=_;rw[take_snoc m,Ah,<-Bool.or_assoc,<-c1,<-b1];by_cases h1:b>c
   ·rw[if_pos h1];by_cases h2:99<b;·rw[decide_eq_true h2,Bool.or_true]
    ·rw[decide_eq_false h2,decide_eq_false (by lia)];rfl
   ·rw[if_neg h1];by_cases h2:99<c;·rw[decide_eq_true h2,Bool.true_or]
    ·rw[decide_eq_false h2,decide_eq_false (by lia)];rfl
  ·rw[take_snoc m,pG,pG,List.sum_append,List.map_singleton,List.map_singleton,Aa,List.sum_singleton];have e1:((1+(((az x ps).take j).map aC).sum:Nat):Int)+((aC e:Nat):Int)=((1+((((az x ps).take j).map aC).sum+aC e):Nat):Int):=by lia
   have e2:(if((depth e:Nat):Int)>((jF (((az x ps).take j).map depth):Nat):Int)then((depth e:Nat):Int)else((jF (((az x ps).take j).map depth):Nat):Int))=((max (jF (((az x ps).take j).map depth)) (depth e):Nat):Int):=by split<;>lia
   rw[<-e1,<-e2];rfl
 ·rintro l T⟨c,C,F,rfl,c0,c1,s2⟩;refine⟨⟨us,bH.of (s2 _ _ h1),bK _⟩,?_⟩;refine⟨_,rfl,_,rfl,_,_,rfl,rfl,_,rfl,(cN rfl),λq4 Y=>?_⟩;refine q q4 c _ (s1.trans (s2.trans (aq Y _))) c0 (c1.trans (TQ wf us.length L)) ?_;rw[I.1,I.2];rw[L,List.take_length];have e2:((jF ((az x ps).map depth):Nat):Int)+1=((1+jF ((az x ps).map depth):Nat):Int):=by lia
  rw[<-e2];exact ak
theorem gI(D:Df K mg "_law_measured" dM ["_law_thing_here"])(M:Mg mg t)(a:bp P w K mg bE "_law_kids" (1) ["_law_thing_here"] eS):∀n:Nat,bp P w K mg bE "_law_measured" (n+131) ["_law_thing_here"] (oI n)|0=>bp.never D λvs H Q E⟨d,v,_,_,h,_⟩=>absurd h.dp (Nat.not_lt_zero _)|n+1=>qN D M a (gI D M a n)
def Ck(n:Nat):Sp:=λvs H Q _=>∃(d:D)(v:V),vs=[v]/\Rep H d v/\Rz d n/\∀H',aM H H'->Q (.bl (eL d)) H'
theorem mF:aT ["_law_thing_here","_law_told_here"] ["_law_thing_here"] (ar hV):=⟨rfl,rfl,rfl,by decide+kernel,rfl,by decide+kernel,by decide+kernel⟩
theorem qJ{n:Nat}(D:Df K mg "_law_great" hV ["_law_thing_here"])(M:Mg mg t)(g:bp P w K mg bE "_law_measured" (n+131) ["_law_thing_here"] (oI n)):bp P w K mg bE "_law_great" (n+132) ["_law_thing_here"] (Ck n):=by
 refine D.ok mF (λvs H Q E h=>?_) (λbase f cS A outer s H vs Q E l h=>?_);·obtain⟨d,v,rfl,_⟩:=h;rfl
 obtain⟨d,v,rfl,r,rz,q⟩:=h;refine⟨_,(ai (aF (i:=1) mF.nd rfl (bY rfl) (aJ g l.m rfl aK (ae (pv 0) ag))) (aj (ay (Q9 (gd ng (aP aR (pv 1) ah (λ_ _=>rfl)) ah (aQ _)) (Q9 (gd ng (aP aR (pv 1) ah (λ_ _=>rfl)) ah (aQ _)) (xA (gd ng (aP aR (pv 1) ah (λ_ _=>rfl)) ah (aQ _)))))))),?_⟩;try dsimp only[gu,m]
 refine pb ?_;intro _ _;refine⟨_,rfl,d,v,rfl,r,rz,λp c k s1 c0 c1 h1=>?_⟩;have b:=bS.of (K:=K) h1;have a:=q k s1;refine⟨_,rfl,p,_,_,_,rfl,rfl,b,aE (j:=0) rfl,_,_,rfl,rfl,_,rfl,?_⟩;refine aY (λc=>?_) (λc=>?_)
 ·have c:(600:Int)<((aC d:Nat):Int):=of_decide_eq_true c;have e:dw d=true:=by unfold dw;simp;lia
  have e:eL d=true:=by show(dw d||eI d)=true;rw[e];rfl
  rw[e]at a;exact a
 have c:¬(600:Int)<((aC d:Nat):Int):=of_decide_eq_false (Bool.eq_false_iff.mpr c);refine⟨_,rfl,p,_,_,_,rfl,rfl,b,aE (j:=1) rfl,_,_,rfl,rfl,_,rfl,?_⟩;refine aY (λc2=>?_) (λc2=>?_)
 ·have c2:(40:Int)<((depth d:Nat):Int):=of_decide_eq_true c2;have e:dw d=true:=by unfold dw;simp;lia
  have e:eL d=true:=by show(dw d||eI d)=true;rw[e];rfl
  rw[e]at a;exact a
 have c2:¬(40:Int)<((depth d:Nat):Int):=of_decide_eq_false (Bool.eq_false_iff.mpr c2);have e:dw d=false:=by unfold dw;simp;lia
 have e:eL d=eI d:=by show(dw d||eI d)=_;rw[e];rfl
 rw[e,<-c1]at a;exact⟨_,rfl,p,_,_,_,rfl,rfl,b,aE (j:=2) rfl,_,_,rfl,rfl,a⟩
def K5(K:PySem.W.Frag):Sp:=λvs H Q _=>∃(a p c:Addr)(ns:List Int)(i deep near:Int),vs=[.ref a, .ref p, .int deep, .int near, .ref c]/\Sg K a p c ns H i/\i<2^50/\1<=deep/\deep<=5/\0<=near/\near<=90/\∀(k:Bool)(d:D)(v:V)(H':Hp)(i':Int),Ou K a p c ns H i k 16 300000 1000000000 d v H' i'->Q v H'
theorem ja:aT ["_law_script","_law_tape","_law_deep","_law_near","_law_pool_here","_law_made"] eN (ar ic):=⟨rfl,rfl,rfl,by decide+kernel,rfl,by decide+kernel,by decide+kernel⟩
theorem DM(D:Df K mg "_law_thing" ic eN)(M:Mg mg t)(n:bp P w K mg bE "_law_draw" (1) C4 (eJ K))(u:bp P w K mg bE "_law_kind" (153) eN (d9 K true 7))(x:bp P w K mg bE "_law_term" (153) eN (d9 K false 7))(r:bp P w K mg bE "_law_great" (152) ["_law_thing_here"] (Ck 20)):bp P w K mg bE "_law_thing" (154) eN (K5 K):=by
 refine D.ok ja (λvs H Q E h=>?_) (λbase f cS A outer s H vs Q E b h=>?_);·obtain⟨a,p,c,ns,i,deep,near,rfl,_⟩:=h;rfl
 obtain⟨a,p,c,ns,i,deep,near,rfl,g,hi,d0,C,l,I,q⟩:=h;have i0:=g.T.i0;have G:cst 7=100000000:=by decide
 have F:p5 7=78125:=by decide
 refine⟨_,(i8 (ba (aI bR (aJ n b.m rfl aK (ae (pv 0) (ae (pv 1) (ae ah ag)))) ah (aQ _)) (aj (aF (i:=5) ja.nd rfl (bY rfl) (aJ u b.m rfl aK (ae (pv 0) (ae (pv 1) (ae (pv 2) (ae (pv 3) (ae (pv 4) ag)))))))) (aj (aF (i:=5) ja.nd rfl (bY rfl) (aJ x b.m rfl aK (ae (pv 0) (ae (pv 1) (ae (pv 2) (ae (pv 3) (ae (pv 4) ag))))))))) (ai (ba (gL (aJ r b.m rfl aK (ae (pv 5) ag))) (aj (ay (av (ae ao ag)))) aO) (aj (ay (pv 5))))),?_⟩;try dsimp only[gu,B]
 refine⟨λm H'=>∃(k:Bool)(d:KM.D)(v:V)(i':Int),m=[some (.ref a),some (.ref p),some (.int deep),some (.int near),some (.ref c),some v]/\Ou K a p c ns H i k 16 300000 1000000000 d v H' i',?_,?_⟩
 ·refine⟨_,rfl,_,rfl,a,p,ns,i,5,rfl,g.T,(by lia),(by decide),λN y w0 w1 e h1=>⟨rfl,_,rfl,?_⟩⟩;have j:=g.next e h1 (by lia);refine aY (λ_=>?_) (λ_=>?_);·exact⟨_,rfl,_,rfl,_,rfl,_,rfl,_,rfl,a,p,c,ns,i+1,deep,near,rfl,j,(by lia),(by lia),(by lia),(by decide),l,(by lia),λd v H' i' o=>⟨true,d,v,i',rfl,(o.after (co1:=1) e (by lia) (by lia)).weak (by decide) (by lia) (by lia)⟩⟩
  ·exact⟨_,rfl,_,rfl,_,rfl,_,rfl,_,rfl,a,p,c,ns,i+1,deep,near,rfl,j,(by lia),(by lia),(by lia),(by decide),l,(by lia),λd v H' i' o=>⟨false,d,v,i',rfl,(o.after (co1:=1) e (by lia) (by lia)).weak (by decide) (by lia) (by lia)⟩⟩
 rintro m y⟨k,d,v,i',rfl,o⟩;have J:=o.dp;have L:=o.kn;refine⟨_,rfl,d,v,rfl,o.r,⟨⟨k,o.wf⟩,by lia,by lia⟩,λz s2=>⟨_,rfl,?_⟩⟩;refine aY (λ_=>?_) (λ_=>?_);·refine⟨(cN rfl),λq1 e1=>?_⟩;exact q false _ _ _ _ (made (o.sx.trans s2.x) (o.g.mono s2) e1 (rs ir r0) fD (by apply KM.d0;with_reducible repeat' first|apply KM.md|apply KM.ny|apply KM.q0|apply KM.q4|apply KM.q3|apply KM.q2|apply KM.q1|lia) (by simp only[aC,aL];lia) o.lo o.hi)
 ·exact⟨_,rfl,q k d v z i' ⟨o.r.mono s2,o.wf,o.dp,o.kn,o.sx.trans s2.x,o.g.mono s2,o.lo,o.hi⟩⟩
def Sl(H:Hp)(v:V):Prop:=∃(q:Addr)(a b:D)(c d:V),v= .ref q/\H q=some (.tup [c,d])/\Rep H a c/\bu aw true a=true/\Rep H b d/\bu aw false b=true/\depth a<=16/\depth b<=16/\aC a<=300000/\aC b<=300000
structure Bk(H:Hp)(aH:List (Key×V)):Prop where
 len:aH.length<=1000
 each:∀k v,(k,v)∈aH->Sl H v
theorem Sl.sx{H H':Hp}{p:Addr}{v:V}(h:Sl H v)(s:bx p H H')(hp:∀vs,H p≠some (.tup vs)):Sl H' v:=by obtain⟨q,a,c,g,i,e,hq,d,w1,f,j,b⟩:=h;exact⟨q,a,c,g,i,e,s _ _ (λz=>by subst z;exact hp _ hq) hq,d.gU s hp,w1,f.gU s hp,j,b⟩
theorem Bk.sx{H H':Hp}{p:Addr}{aH:List (Key×V)}(h:Bk H aH)(s:bx p H H')(hp:∀vs,H p≠some (.tup vs)):Bk H' aH:=⟨h.len,λk v m=>(h.each k v m).sx s hp⟩
theorem Sl.mono{H H':Hp}{v:V}(h:Sl H v)(s:aM H H'):Sl H' v:=by obtain⟨q,a,c,g,i,e,hq,d,w1,f,j,b⟩:=h;exact⟨q,a,c,g,i,e,s _ _ hq,d.mono s,w1,f.mono s,j,b⟩
theorem Bk.mono{H H':Hp}{aH:List (Key×V)}(h:Bk H aH)(s:aM H H'):Bk H' aH:=⟨h.len,λk v m=>(h.each k v m).mono s⟩
theorem Bg{aH:List (Key×V)}{k d:Key}{v c:V}(h:(d,c)∈putK aH k v):(d,c)∈aH\/c=v:=by
 unfold putK at h;split at h
 ·obtain⟨⟨a,b⟩,m,e⟩:=List.mem_map.mp h;simp only at e;split at e;·cases e;exact .inr rfl
  ·cases e;exact .inl m
 ·rcases List.mem_append.mp h with m|m;·exact .inl m
  ·have :=List.mem_singleton.mp m;cases this;exact .inr rfl
theorem og{aH:List (Key×V)}{k:Key}{v:V}:(putK aH k v).length<=aH.length+1:=by
 unfold putK;split;·rw[dI];lia
 ·rw[iJ,EY];exact bK _
theorem cf{H:Hp}{p:Addr}{xs:List V}(h:H p=some (.lst xs)):∀vs,H p≠some (.tup vs):=λvs z=>by rw[h]at z;cases z
theorem dS{H:Hp}{p:Addr}{xs:List (Key×V)}(h:H p=some (.dK xs)):∀vs,H p≠some (.tup vs):=λvs z=>by rw[h]at z;cases z
def PV(K:PySem.W.Frag):Sp:=λvs H Q _=>∃(a p c:Addr)(ns:List Int)(i:Int),vs=[.ref a, .ref p, .ref c]/\Sg K a p c ns H i/\i<2^50/\∀(b:Addr)(aH:List (Key×V))(H':Hp)(i':Int),H b=none->H' b=some (.dK aH)->aH.length<=3->Bk H' aH->bx p H H'->Sg K a p c ns H' i'->i<=i'->i'<=i+10000000000->Q (.ref b) H'
theorem gZ:aT ["_law_script","_law_tape","_law_pool_here","_law_book_here","_law_k","_law_kind_here"] ["_law_script","_law_tape","_law_pool_here"] (ar jH):=⟨rfl,rfl,rfl,by decide+kernel,rfl,by decide+kernel,by decide+kernel⟩
theorem Gy(D:Df K mg "_law_book" jH ["_law_script","_law_tape","_law_pool_here"])(M:Mg mg t)(aB:bp P w K mg bE "_law_draw" (1) C4 (eJ K))(bD:bp P w K mg bE "_law_kind" (153) eN (d9 K true 7))(bc:bp P w K mg bE "_law_term" (153) eN (d9 K false 7)):bp P w K mg bE "_law_book" (154) ["_law_script","_law_tape","_law_pool_here"] (PV K):=by
 refine D.ok gZ (λvs H Q E h=>?_) (λbase f cS A outer s H vs Q E u h=>?_);·obtain⟨a,p,c,ns,i,rfl,_⟩:=h;rfl
 obtain⟨a,p,c,ns,i,rfl,g,hi,q⟩:=h;have i0:=g.T.i0;have hu:=x_ u;have ec:cst 7=100000000:=by decide
 have e5:p5 7=78125:=by decide
 refine⟨_,(ai (aF (i:=3) gZ.nd rfl (bY rfl) N5) (ai (fz PassesOwn.never rfl (dR rfl M.f9 (ae (aJ aB u.m rfl aK (ae (pv 0) (ae (pv 1) (ae ah ag)))) ag)) (bL (i:=4) gZ.nd rfl (bY rfl)) (ai (aF (i:=5) gZ.nd rfl (bY rfl) (aJ bD u.m rfl aK (ae (pv 0) (ae (pv 1) (ae ah (ae ah (ae (pv 2) ag))))))) (aj (Cu hu (pv 3) (aP bQ (pv 2) (pv 4) (λ_ _=>rfl)) (av (ae (pv 5) (ae (aJ bc u.m rfl aK (ae (pv 0) (ae (pv 1) (ae ah (ae ah (ae (pv 2) ag)))))) ag))) rfl)))) (aj (ay (pv 3))))),?_⟩;try dsimp only[gu,cH]
 refine Cy ?_;intro _ _ _;intro b hb;have sb:=aq hb (.dK []);have W:(upd H b (.dK [])) b=some (.dK []):=ak;have F:=g.mono sb;have xb:bx p H (upd H b (.dK [])):=sb.x;have Z:b≠p:=λz=>by subst z;rw[g.T.gh]at hb;cases hb
 generalize upd H b (.dK [])=H0 at sb W F xb⊢;refine⟨_,rfl,_,rfl,a,p,ns,i,4,rfl,F.T,(by lia),(by decide),λm H1 m0 m1 L h1=>⟨_,rfl,(by lia),(by lia),?_⟩⟩;obtain⟨m,rfl⟩:∃k:Nat,m=(k:Int):=⟨m.toNat,by lia⟩;have g1:=F.next L h1 (by lia);have hb1:=L _ _ Z W;let zx:Nat->L2.St->Hp->Prop:=(λk R H'=>∃(aH:List (Key×V))(i':Int)(I G:Option V),R=[some (.ref a),some (.ref p),some (.ref c),some (.ref b),I,G]/\H' b=some (.dK aH)/\aH.length<=k/\Bk H' aH/\bx p H H'/\Sg K a p c ns H' i'/\i<=i'/\i'<=i+1+200000000*(k:Int));refine gy (m:Int).toNat zx ?_ ?_ ?_;·exact⟨[],i+1,none,none,rfl,hb1,bK _,⟨by simp,λk v h=>by cases h⟩,xb.trans L,g1,by lia,by lia⟩
 ·rintro k R T hk⟨aH,i2,I,G,rfl,h2,l2,n,N,r,Y,hi2⟩;refine⟨hk,?_⟩;rintro x' H2'⟨rfl,rfl⟩;have e0:(0:Int)+(k:Int)=((k:Nat):Int):=by lia
  rw[e0];refine⟨_,rfl,_,rfl,_,rfl,a,p,c,ns,i2,1,0,rfl,r,(by lia),(by decide),(by decide),(by decide),(by decide),(by decide),λdA j H3 i3 e=>?_⟩;have hA:=e.hi;have lA:=e.lo;refine⟨_,rfl,_,rfl,_,rfl,_,rfl,a,p,c,ns,i3,2,0,rfl,e.g,(by lia),(by decide),(by decide),(by decide),(by decide),(by decide),λdB l U i4 d=>⟨(cN rfl),λq1 e1=>?_⟩⟩;have hB:=d.hi;have lB:=d.lo;have t1:=aq e1 (.tup [j,l]);have O:=e.sx.trans d.sx;have C:=d.g.mono t1;have h5:=t1 _ _ (O _ _ Z h2);have S:=(n.sx O (cf r.T.gh)).mono t1;have rA:=(e.later d.sx).mono t1;have rB:=d.r.mono t1;have X:(upd U q1 (.tup [j,l])) q1=some (.tup [j,l]):=ak;have x5:=(N.trans O).trans t1.x;generalize upd U q1 (.tup [j,l])=B at t1 C h5 S rA rB X x5⊢;obtain⟨x,y,z,l1,l2',l3,hc⟩:=C.pl;obtain⟨o,ho,hol⟩:∃o:Str,lP [V.str x, .str y, .str z] ((k:Nat):Int)=some (.str o)/\o.length<=101:=by
   have hk3:k=0\/k=1\/k=2:=by lia
   rcases hk3 with rfl|rfl|rfl;·exact⟨x,rfl,l1⟩
   ·exact⟨y,rfl,l2'⟩
   ·exact⟨z,rfl,l3⟩
  refine⟨_,rfl,_,rfl,_,rfl,c,_,_,_,rfl,rfl,bH.of hc,ho,b,_,rfl,FW.k (k:=Sum.inr o) h5 (by have :aH.length<=1000:=n.len;exact Nat.lt_of_le_of_lt this (by decide)),?_⟩;have xu:bx b B (upd B b (.dK (putK aH (Sum.inr o) (.ref q1)))):=bx.upd _;have dA':=e.dp;have dB':=d.dp;have kA':=e.kn;have kB':=d.kn;have bV:Sl B (.ref q1):=⟨q1,dA,dB,j,l,rfl,X,rA,e.wf,rB,d.wf,dA',dB',by lia,by lia⟩;have hB':H b=none:=hb;refine⟨putK aH (Sum.inr o) (.ref q1),i4,_,_,rfl,ak,c8 og (by lia),⟨c8 og (by lia),λk' v' J=>?_⟩,?_,?_,by lia,by lia⟩
  ·rcases Bg J with J|rfl;·exact(S.each k' v' J).sx xu (dS h5)
   ·exact bV.sx xu (dS h5)
  ·intro b' o' n' h';rw[aZ (aX h' hb)];exact x5 b' o' n' h'
  ·exact C.upd h5
 ·rintro R T⟨aH,i2,I,G,rfl,h2,l2,n,N,r,Y,hi2⟩;refine⟨bK _,_,rfl,q b aH T i2 hb h2 (by lia) n N r Y (by lia)⟩
theorem aa7(v1 a b c:V)(x:Str):fb [((Sum.inr "app":Key),v1),(Sum.inr "carry",a),(Sum.inr "first",b),(Sum.inr "second",c)] (Sum.inr x:Key)=if x="app"then some v1 else if x="carry"then some a else if x="first"then some b else if x="second"then some c else none:=by
 have inj:∀y:Str,(Sum.inr y:Key)=Sum.inr x↔x=y:=λy=>⟨λz=>by cases z;rfl,λz=>by rw[z]⟩;by_cases h1:x="app";·rw[if_pos h1,fH ((inj _).mpr h1)]
 rw[if_neg h1,fR (λz=>h1 ((inj _).mp z))];by_cases h2:x="carry";·rw[if_pos h2,fH ((inj _).mpr h2)]
 rw[if_neg h2,fR (λz=>h2 ((inj _).mp z))];by_cases h3:x="first";·rw[if_pos h3,fH ((inj _).mpr h3)]
 rw[if_neg h3,fR (λz=>h3 ((inj _).mp z))];by_cases h4:x="second";·rw[if_pos h4,fH ((inj _).mpr h4)]
 rw[if_neg h4,fR (λz=>h4 ((inj _).mp z))];rfl
theorem O2(v1 a b c:V):oK [] [((Sum.inr "app":Key),v1),(Sum.inr "carry",a),(Sum.inr "first",b),(Sum.inr "second",c)]=[((Sum.inr "app":Key),v1),(Sum.inr "carry",a),(Sum.inr "first",b),(Sum.inr "second",c)]:=by rfl
theorem kd:aT ["_law_thing_here","_law_book_here","_law_word_here","_law_heads"] ["_law_thing_here","_law_book_here"] (ar jt):=⟨rfl,rfl,rfl,by decide+kernel,rfl,by decide+kernel,by decide+kernel⟩
theorem Gs(D:Df K mg "_law_rule" jt ["_law_thing_here","_law_book_here"])(M:Mg mg t):bp P w K mg bE "_law_rule" (1) ["_law_thing_here","_law_book_here"] oG:=by
 refine D.ok kd (λvs H Q E h=>?_) (λbase f cS A outer s H vs Q E hr h=>?_);·obtain⟨d,v,b,aH,rfl,_⟩:=h;rfl
 obtain⟨d,v,b,aH,rfl,r,wf,hb,q⟩:=h;have G:=x_ hr;obtain⟨x,ps,k,rfl,T,Dc⟩:=kZ wf;obtain⟨a,Mr,rfl,ha,v0,us,rfl,⟨rfl,hx⟩,rp⟩:=id r;have ea:lP (V.str x::us) 0=some (.str x):=aE (j:=0) rfl;refine⟨_,(ai (aF (i:=2) kd.nd rfl (bY rfl) (aP aR (pv 0) ah (λ_ _=>rfl))) (ai (ba (aI bR (pv 2) ao (aQ _)) (aj (ay (aP bQ (cq (ae ao (ae iu ag))) (fA Ae rfl M.O_ G2 (ae (XF (MB G (aP aR (pv 0) ah (λ_ _=>rfl)) (pv 1))) ag)) (λ_ _=>rfl)))) aO) (ai (aF (i:=3) kd.nd rfl (bY rfl) (Io (fL ao (av (ae ah (ae ao ag))) (fL ao (av (ae ah (ae ao ag))) (fL ao (av (ae ah (ae ao ag))) (fL ao (av (ae ah (ae ao ag))) Ku)))) rfl rfl (by simp) (by decide))) (i8 (ba (L2.PW.pt (Cw (Pb (RI G (pv 2) (pv 3))) (vw (aI bR (aP aR (aP aR (pv 0) (aP aR (xf G (pv 3) (pv 2) (λ_ _=>rfl)) ah (λ_ _=>rfl)) (λ_ _=>rfl)) ah (λ_ _=>rfl)) (aP aR (xf G (pv 3) (pv 2) (λ_ _=>rfl)) ah (λ_ _=>rfl)) (aQ _))))) (aj (ay (xf G (Io (fL ao ao (fL ao ao (fL ao ao (fL ao ao Ku)))) rfl rfl (by simp) (by decide)) (pv 2) (λ_ _=>rfl)))) aO) (ai (ba (L2.PW.pt (Cw (aI bR (pv 2) ao (aQ _)) (vw (aI iM (aP aR (aP aR (pv 0) ah (λ_ _=>rfl)) ah (λ_ _=>rfl)) (av (ae ao (ae ao ag))) rfl)))) (aj (ay (aP aR (aP aR (pv 0) ah (λ_ _=>rfl)) ah (λ_ _=>rfl)))) aO) (aj (ay iu))))))),?_⟩;try dsimp only[gu,cH]
 refine A9 ?_;intro _ _ _ _;refine⟨_,rfl,a,_,_,_,rfl,rfl,bS.of ha,ea,?_⟩;refine⟨_,rfl,rfl,_,rfl,?_⟩;refine aY (λc=>?_) (λc=>?_);·have c:V.str x=V.str "name":=of_decide_eq_true c;cases c;obtain⟨y,rfl⟩:=oR T;obtain⟨u,us',rfl,⟨rfl,_⟩,ru⟩:=rp;cases(show us'=[]from ru);have eq1:bI (e9 aH) (.tup [.str "name", .str y])=if e9 aH y=true then .str "name"else .aW:=rfl;rw[eq1]at q;refine⟨(cN rfl),λe F=>?_⟩;have s1:=aq F (.lst [V.str "name", .aW]);refine⟨_,rfl,a,_,_, .str y,rfl,rfl,bS.of (s1 _ _ ha),aE (j:=1) rfl,_,rfl,b,_,rfl,lG.k (k:=Sum.inr y) (s1 _ _ hb), .inr ⟨_,rfl,?_⟩⟩;have m:=q _ s1;show SU _ (.ref e) (V.int (if(!e9 aH y)=true then 1 else 0)) _ _;cases Y:e9 aH y with|true=>rw[Y]at m;exact⟨e,_,_, .str "name",rfl,rfl,bH.of ak,rfl,m⟩|false=>rw[Y]at m;exact⟨e,_,_, .aW,rfl,rfl,bH.of ak,rfl,m⟩
 have nn:x≠"name":=λz=>c (by rw[z];decide+kernel);have two:2<=sizeLine:=by decide
 intro e F;have s1:=aq F (.dK []);refine⟨two,λq1 e1=>⟨two,λq2 e2=>⟨two,λq3 e3=>⟨two,λq4 e4=>?_⟩⟩⟩⟩;have t1:=aq e1 (.tup [V.int 1, .str "fun"]);have t2:=aq e2 (.tup [V.int 3, .str "like"]);have B:=aq e3 (.tup [V.int 1, .str "pair"]);have t4:=aq e4 (.tup [V.int 1, .str "pair"]);have hp:(upd H e (.dK [])) e=some (.dK []):=ak;refine⟨t4 _ _ (B _ _ (t2 _ _ (t1 _ _ hp))),[(Sum.inr "app", .ref q1),(Sum.inr "carry", .ref q2),(Sum.inr "first", .ref q3),(Sum.inr "second", .ref q4)],rfl,(by show 4<=15;decide),?_⟩;rw[O2];have p:aM H (upd (upd (upd (upd (upd (upd H e (.dK [])) q1 (.tup [V.int 1, .str "fun"])) q2 (.tup [V.int 3, .str "like"])) q3 (.tup [V.int 1, .str "pair"])) q4 (.tup [V.int 1, .str "pair"])) e (.dK [(Sum.inr "app", .ref q1),(Sum.inr "carry", .ref q2),(Sum.inr "first", .ref q3),(Sum.inr "second", .ref q4)])):=d_ (s1.trans (t1.trans (t2.trans (B.trans t4)))) F;have n1:q1≠e:=λz=>by rw[z,hp]at e1;cases e1
 have n2:q2≠e:=λz=>by rw[z,t1 _ _ hp]at e2;cases e2
 have n3:q3≠e:=λz=>by rw[z,t2 _ _ (t1 _ _ hp)]at e3;cases e3
 have n4:q4≠e:=λz=>by rw[z,B _ _ (t2 _ _ (t1 _ _ hp))]at e4;cases e4
 have h5:(upd (upd (upd (upd (upd (upd H e (.dK [])) q1 (.tup [V.int 1, .str "fun"])) q2 (.tup [V.int 3, .str "like"])) q3 (.tup [V.int 1, .str "pair"])) q4 (.tup [V.int 1, .str "pair"])) e (.dK [(Sum.inr "app", .ref q1),(Sum.inr "carry", .ref q2),(Sum.inr "first", .ref q3),(Sum.inr "second", .ref q4)])) e=some (.dK [(Sum.inr "app", .ref q1),(Sum.inr "carry", .ref q2),(Sum.inr "first", .ref q3),(Sum.inr "second", .ref q4)]):=ak;have f1:(upd (upd (upd (upd (upd (upd H e (.dK [])) q1 (.tup [V.int 1, .str "fun"])) q2 (.tup [V.int 3, .str "like"])) q3 (.tup [V.int 1, .str "pair"])) q4 (.tup [V.int 1, .str "pair"])) e (.dK [(Sum.inr "app", .ref q1),(Sum.inr "carry", .ref q2),(Sum.inr "first", .ref q3),(Sum.inr "second", .ref q4)])) q1=some (.tup [V.int 1, .str "fun"]):=by rw[aZ n1];exact t4 _ _ (B _ _ (t2 _ _ ak))
 have f2:(upd (upd (upd (upd (upd (upd H e (.dK [])) q1 (.tup [V.int 1, .str "fun"])) q2 (.tup [V.int 3, .str "like"])) q3 (.tup [V.int 1, .str "pair"])) q4 (.tup [V.int 1, .str "pair"])) e (.dK [(Sum.inr "app", .ref q1),(Sum.inr "carry", .ref q2),(Sum.inr "first", .ref q3),(Sum.inr "second", .ref q4)])) q2=some (.tup [V.int 3, .str "like"]):=by rw[aZ n2];exact t4 _ _ (B _ _ ak)
 have W:(upd (upd (upd (upd (upd (upd H e (.dK [])) q1 (.tup [V.int 1, .str "fun"])) q2 (.tup [V.int 3, .str "like"])) q3 (.tup [V.int 1, .str "pair"])) q4 (.tup [V.int 1, .str "pair"])) e (.dK [(Sum.inr "app", .ref q1),(Sum.inr "carry", .ref q2),(Sum.inr "first", .ref q3),(Sum.inr "second", .ref q4)])) q3=some (.tup [V.int 1, .str "pair"]):=by rw[aZ n3];exact t4 _ _ ak
 have X:(upd (upd (upd (upd (upd (upd H e (.dK [])) q1 (.tup [V.int 1, .str "fun"])) q2 (.tup [V.int 3, .str "like"])) q3 (.tup [V.int 1, .str "pair"])) q4 (.tup [V.int 1, .str "pair"])) e (.dK [(Sum.inr "app", .ref q1),(Sum.inr "carry", .ref q2),(Sum.inr "first", .ref q3),(Sum.inr "second", .ref q4)])) q4=some (.tup [V.int 1, .str "pair"]):=by rw[aZ n4];exact ak
 generalize upd (upd (upd (upd (upd (upd H e (.dK [])) q1 (.tup [V.int 1, .str "fun"])) q2 (.tup [V.int 3, .str "like"])) q3 (.tup [V.int 1, .str "pair"])) q4 (.tup [V.int 1, .str "pair"])) e (.dK [(Sum.inr "app", .ref q1),(Sum.inr "carry", .ref q2),(Sum.inr "first", .ref q3),(Sum.inr "second", .ref q4)])=U at p h5 f1 f2 W X⊢;clear t1 t2 B t4 s1 hp F e1 e2 e3 e4;have N:=p _ _ ha;have rp5:=rp.mono p;have key:(fb [((Sum.inr "app":Key),V.ref q1),(Sum.inr "carry", .ref q2),(Sum.inr "first", .ref q3),(Sum.inr "second", .ref q4)] (Sum.inr x:Key)=none/\eP (e9 aH) x ps=(if x="rec"then(if zS ((ps[3]?).getD .aW)="zero"then .str "zero"else if zS ((ps[3]?).getD .aW)="next"then .str "next"else .aW)else .aW))\/∃(m:Addr)(j:Nat)(y z s':Str),fb [((Sum.inr "app":Key),V.ref q1),(Sum.inr "carry", .ref q2),(Sum.inr "first", .ref q3),(Sum.inr "second", .ref q4)] (Sum.inr x:Key)=some (.ref m)/\U m=some (.tup [.int ((j+1:Nat):Int), .str y])/\dJ x= .str s'/\s'.cps.toList[j]?=some 116/\fb [((Sum.inr "app":Key),V.str "fun"),(Sum.inr "carry", .str "like"),(Sum.inr "first", .str "first"),(Sum.inr "second", .str "second")] (Sum.inr x:Key)=some (.str z)/\eP (e9 aH) x ps=(if zS ((ps[j]?).getD .aW)=y then .str z else .aW)/\x≠"rec":=by
  rw[aa7,aa7];unfold eP;rw[if_neg nn];by_cases h1:x="app";·subst h1;exact .inr ⟨q1,0,"fun","fun","tt",by simp,f1,by decide+kernel,by decide+kernel,by simp,by simp,by decide+kernel⟩
  by_cases h2:x="carry";·subst h2;exact .inr ⟨q2,2,"like","like","ktt",by simp[h1],f2,by decide+kernel,by decide+kernel,by simp[h1],by simp[h1],by decide+kernel⟩
  by_cases h3:x="first";·subst h3;exact .inr ⟨q3,0,"pair","first","t",by simp[h1,h2],W,by decide+kernel,by decide+kernel,by simp[h1,h2],by simp[h1,h2],by decide+kernel⟩
  by_cases h4:x="second";·subst h4;exact .inr ⟨q4,0,"pair","second","t",by simp[h1,h2,h3],X,by decide+kernel,by decide+kernel,by simp[h1,h2,h3],by simp[h1,h2,h3],by decide+kernel⟩
  ·exact .inl ⟨by simp[h1,h2,h3,h4],by simp[h1,h2,h3,h4]⟩
 refine⟨λbf H'=>bf=[some (.ref a),some (.ref b),some (.str x),some (.ref e)]/\H'=U/\eP (e9 aH) x ps=(if x="rec"then(if zS ((ps[3]?).getD .aW)="zero"then .str "zero"else if zS ((ps[3]?).getD .aW)="next"then .str "next"else .aW)else .aW),?_,?_⟩
 ·refine⟨_,rfl,_,rfl,e,_,rfl,lG.k (k:=Sum.inr x) h5,_,rfl,?_⟩;rcases key with⟨kn,n⟩|⟨m,j,y,z,s',R,Z,ks,ki,kz,n,kx⟩;·rw[kn];exact jP (jP ⟨rfl,rfl,n⟩)
  rw[R];obtain⟨c0,ws,J,L⟩:=yq T rp5 ks ki;refine qR ⟨_,rfl,_,rfl,_,rfl,e,_,rfl,R▸lG.k (k:=Sum.inr x) h5,m,_,_,_,rfl,rfl,bS.of Z,aE (j:=0) rfl,a,_,_, .ref c0,rfl,rfl,bS.of N,J,c0,_,_,_,rfl,rfl,bS.of L,aE (j:=0) rfl,_,rfl,_,rfl,e,_,rfl,R▸lG.k (k:=Sum.inr x) h5,m,_,_,_,rfl,rfl,bS.of Z,aE (j:=1) rfl,rfl,_,rfl,?_⟩;refine aY (λch=>?_) (λch=>?_)
  ·have ch:V.str (zS ((ps[j]?).getD .aW))=V.str y:=of_decide_eq_true ch;injection ch with ch;intro S O;have I:=aq O (.dK [((Sum.inr "app":Key),V.str "fun"),(Sum.inr "carry", .str "like"),(Sum.inr "first", .str "first"),(Sum.inr "second", .str "second")]);refine⟨ak,[((Sum.inr "app":Key),V.str "fun"),(Sum.inr "carry", .str "like"),(Sum.inr "first", .str "first"),(Sum.inr "second", .str "second")],rfl,(by show 4<=15;decide),?_⟩;rw[O2,T8];refine⟨_,rfl,S, .str z,rfl,kz▸lG.k (k:=Sum.inr x) ak,?_⟩;have l:=q _ (p.trans I);have C:bI (e9 aH) (.tup (.str x::ps))= .str z:=by show eP (e9 aH) x ps=_;rw[n,if_pos ch]
   rw[C]at l;exact l
  ·have ch:¬zS ((ps[j]?).getD .aW)=y:=λz=>ch (by rw[z];exact decide_eq_true rfl);refine⟨rfl,rfl,?_⟩;rw[n,if_neg ch,if_neg kx]
 ·rintro bf H'⟨rfl,rfl,n⟩;refine⟨_,rfl,rfl,_,rfl,?_⟩;refine aY (λo=>?_) (λo=>?_)
  ·have o:V.str x=V.str "rec":=of_decide_eq_true o;cases o;rw[if_pos rfl]at n;obtain⟨c0,ws,J,L⟩:=yq (s:="kttt") (i:=3) T rp5 (by decide+kernel) (by decide+kernel);refine⟨_,rfl,a,_,_, .ref c0,rfl,rfl,bS.of N,J,c0,_,_,_,rfl,rfl,bS.of L,aE (j:=0) rfl,(cN rfl),λS O=>⟨S,(["zero","next"]:List Str).map V.str,rfl, .inr (bS.of ak),rfl,rfl,_,rfl,?_⟩⟩;have I:=aq O (.tup [V.str "zero", .str "next"]);show if(Vu (.str (zS ((ps[3]?).getD .aW))) ((["zero","next"]:List Str).map V.str))=true then _ else _;rw[yy];have l:=q _ (p.trans I);have C:bI (e9 aH) (.tup (.str "rec"::ps))=_:=n;rw[C]at l;refine aY (λg=>?_) (λg=>?_)
   ·have g:zS ((ps[3]?).getD .aW)∈(["zero","next"]:List Str):=of_decide_eq_true g;refine⟨_,rfl,a,_,_, .ref c0,rfl,rfl,bS.of (I _ _ N),J,c0,_,_,_,rfl,rfl,bS.of (I _ _ L),aE (j:=0) rfl,?_⟩;simp only[gF,jf,or_false]at g;rcases g with g|g;·rw[g,if_pos rfl]at l;rw[g];exact l
    ·rw[g,if_neg (by decide+kernel),if_pos rfl]at l;rw[g];exact l
   ·have g:¬zS ((ps[3]?).getD .aW)∈(["zero","next"]:List Str):=of_decide_eq_false (Bool.eq_false_iff.mpr g);simp only[gF,jf,or_false,not_or]at g;rw[if_neg g.1,if_neg g.2]at l;exact l
  ·have o:x≠"rec":=λz=>o (by rw[z];decide+kernel);rw[if_neg o]at n;have l:=q _ p;have C:bI (e9 aH) (.tup (.str x::ps))=_:=n;rw[C]at l;exact jP l
noncomputable abbrev Rp:=List Nat×D
mutual noncomputable def bO(pl:List Nat):D->List Rp| .tup (.str x::ps)=>(pl, .tup (.str x::ps))::(if cZ x=true then[]else eU pl 0 ps)|_=>[]noncomputable def eU(pl:List Nat):Nat->List D->List Rp|_,[]=>[]|i,d::ds=>bO (pl++[i]) d++eU pl (i+1) ds end
theorem E2(pl:List Nat)(x:Str)(ps:List D):bO pl (.tup (.str x::ps))=(pl, .tup (.str x::ps))::eU pl 0 (az x ps):=by
 rw[bO];unfold az;split;·rw[eU]
 ·rfl
theorem qm(pl:List Nat):∀(ds:List D)(j:Nat),eU pl j ds=((List.range ds.length).map λi=>((pl++[j+i],(ds[i]?).getD .aW):Rp)).flatMap λr=>bO r.1 r.2|[],j=>by rw[eU];rfl|d::ds,j=>by rw[eU,qm pl ds (j+1),cF,List.range_succ_eq_map,d7,List.flatMap_cons,List.map_map];congr 1;congr 1;apply List.map_congr_left;intro i _;show((pl++[j+1+i],(ds[i]?).getD .aW):Rp)=(pl++[j+(i+1)],_);rw[show j+1+i=j+(i+1)by lia];rfl
theorem Uj{a:Type}(g:Nat->a)(n:Nat):((List.range n).map λt=>g (n-1-t)).reverse=(List.range n).map g:=by
 apply List.ext_getElem;·simp
 ·intro i h1 h2;have hi:i<n:=by simpa using h2
  rw[List.getElem_reverse,List.getElem_map,List.getElem_map,List.getElem_range,List.getElem_range];simp only[dI,List.length_range];congr 1;lia
mutual theorem oy:∀(pl:List Nat)(d:D),(bO pl d).length<=aC d
 |pl, .tup (.str x::ps)=>by
  rw[bO,cF];have e:aC (.tup (.str x::ps))=1+aL ps:=by simp[aC,aL]
  rw[e];split;·simp
  ·have :=z9 pl 0 ps;lia
 |pl, .tup []=>by simp[bO]
 |pl, .tup (.aW::_)=>by simp[bO]
 |pl, .tup (.bl _::_)=>by simp[bO]
 |pl, .tup (.int _::_)=>by simp[bO]
 |pl, .tup (.tup _::_)=>by simp[bO]
 |pl, .aW=>by simp[bO]
 |pl, .bl _=>by simp[bO]
 |pl, .int _=>by simp[bO]
 |pl, .str _=>by simp[bO]theorem z9:∀(pl:List Nat)(j:Nat)(ds:List D),(eU pl j ds).length<=aL ds
 |pl,j,[]=>by simp[eU]
 |pl,j,d::ds=>by
  rw[eU,iJ];have h1:=oy (pl++[j]) d;have h2:=z9 pl (j+1) ds;have e:aL (d::ds)=aC d+aL ds:=by simp[aL]
  lia end
noncomputable def vD:V->D| .str x=> .str x|_=> .aW
noncomputable def stD(r:Rp):D:= .tup [WX r.1,r.2]
noncomputable def Nj(inb:Str->Bool)(r:Rp):D:= .tup [WX r.1,r.2,vD (bI inb r.2)]
theorem OT{H:Hp}{inb:Str->Bool}{d:D}(h:Wf d):Rep H (vD (bI inb d)) (bI inb d):=by
 obtain⟨k,h⟩:=h;obtain⟨x,ps,rfl⟩:=cz h;show Rep H (vD (eP inb x ps)) (eP inb x ps);have st:∀y:Str,y.length<=1000->Rep H (vD (.str y)) (.str y):=λy a=>⟨rfl,a⟩;have b:Rep H (vD .aW) .aW:=rfl;unfold eP EO;repeat' split
 all_goals first|exact b|exact st _ (by decide+kernel)
theorem zY{H:Hp}:∀{ds:List D}{d:D}{ws:List V},bz H (ds++[d]) ws->∃b y,ws=b++[y]/\bz H ds b/\Rep H d y|[],d,_,⟨v,r,e,q,t⟩=>by subst e;cases(show r=[]from t);exact⟨[],v,rfl,rfl,q⟩|a::ds,d,_,⟨v,r,e,q,t⟩=>by subst e;obtain⟨b,y,rfl,h1,h2⟩:=zY t;exact⟨v::b,y,rfl,⟨v,b,rfl,q,h1⟩,h2⟩
def Q3:Sp:=λvs H Q _=>∃(d:D)(v:V)(b:Addr)(aH:List (Key×V)),vs=[v, .ref b]/\Rep H d v/\Wf d/\depth d<=75/\aC d<=1000000/\H b=some (.dK aH)/\∀(f:Addr)(fs:List V)(H':Hp),H f=none->aM H H'->H' f=some (.lst fs)->bz H' ((bO [] d).map (Nj (e9 aH))) fs->Q (.ref f) H'
structure Wk(H H':Hp)(d:D)(b pf pw:Addr)(inb:Str->Bool)(st fo:List Rp)(ws fs:List V):Prop where
 hw:H' pw=some (.lst ws)
 hf:H' pf=some (.lst fs)
 ir:bz H' (st.map stD) ws
 rf:bz H' (fo.map (Nj inb)) fs
 all:fo++st.reverse.flatMap (λr=>bO r.1 r.2)=bO [] d
 ok:∀x∈st,Wf x.2/\x.1.length+depth x.2<=75
 kn:(st.map λr=>aC r.2).sum<=1000000
 sm:aM H H'
theorem du:aT ["_law_thing_here","_law_book_here","_law_found","_law_waiting","_law_place","_law_here","_law_kids_here","_law_step","_law_number_here"] ["_law_thing_here","_law_book_here"] (ar iW):=⟨rfl,rfl,rfl,by decide+kernel,rfl,by decide+kernel,by decide+kernel⟩
theorem Gf(D:Df K mg "_law_rows" iW ["_law_thing_here","_law_book_here"])(M:Mg mg t)(Ht:bp P w K mg bE "_law_rule" (1) ["_law_thing_here","_law_book_here"] oG)(fB:bp P w K mg bE "_law_kids" (1) ["_law_thing_here"] eS):bp P w K mg bE "_law_rows" (2) ["_law_thing_here","_law_book_here"] Q3:=by
 refine D.ok du (λvs H Q E h=>?_) (λbase f cS A outer s H vs Q E hr h=>?_);·obtain⟨d,v,b,aH,rfl,_⟩:=h;rfl
 obtain⟨d,v,b,aH,rfl,r,wf,hdp,hkn,hb,q⟩:=h;refine⟨_,(ai (aF (i:=2) du.nd rfl (bY rfl) (cq ag)) (ai (aF (i:=3) du.nd rfl (bY rfl) (cq (ae (av (ae (av ag) (ae (pv 0) ag))) ag))) (ai (xE PassesOwn.never (aI ng (bj bC rfl M.gQ eG (ae (pv 3) ag)) ah (aQ _)) (ai (G0 (Y0 PySem.F.plainAttrs_list PySem.F.slot_list_pop PySem.F.type_list_pop ZZ (pv 3)) (BP (n:=2) rfl (e8 (bL (i:=4) du.nd rfl (bY rfl)) (e8 (bL (i:=5) du.nd rfl (bY rfl)) wj)))) (ai (i7 (lx PySem.F.plainAttrs_list PySem.F.slot_list_append PySem.F.type_list_append fj (pv 2) (ae (av (ae (pv 4) (ae (pv 5) (ae (aJ Ht hr.m rfl aK (ae (pv 5) (ae (pv 1) ag))) ag)))) ag))) (ai (aF (i:=6) du.nd rfl (bY rfl) (aJ fB hr.m rfl aK (ae (pv 5) ag))) (aj (fz PassesOwn.never rfl (dR rfl M.f9 (ae (bj bC rfl M.gQ eG (ae (pv 6) ag)) ag)) (bL (i:=7) du.nd rfl (bY rfl)) (ai (aF (i:=8) du.nd rfl (bY rfl) (aS bG (aS bG (bj bC rfl M.gQ eG (ae (pv 6) ag)) ah) (pv 7))) (aj (i7 (lx PySem.F.plainAttrs_list PySem.F.slot_list_append PySem.F.type_list_append fj (pv 3) (ae (av (ae (aS tN (pv 4) (av (ae (pv 8) ag))) (ae (aP bQ (pv 6) (pv 8) (λ_ _=>rfl)) ag))) ag))))))))))) (aj (ay (pv 2)))))),?_⟩;try dsimp only[gu,cH]
 refine A9 ?_;intro _ _ _ _;refine⟨(cN rfl),λpf hpf=>?_⟩;have t1:=aq hpf (.lst []);refine⟨(cN rfl),λq0 e0=>⟨_,rfl,(cN rfl),λq1 e1=>⟨(cN rfl),λpw hpw=>?_⟩⟩⟩;have t2:=aq e0 (.tup []);have u:=aq e1 (.tup [V.ref q0,v]);have t4:=aq hpw (.lst [V.ref q1]);have npf:pf≠pw:=aX (u _ _ (t2 _ _ (show(upd H pf (.lst [])) pf=some (.lst [])from ak))) hpw;have aa_:H pw=none:=t1.free (t2.free (u.free hpw));have hq0:(upd (upd (upd (upd H pf (.lst [])) q0 (.tup [])) q1 (.tup [V.ref q0,v])) pw (.lst [V.ref q1])) q0=some (.tup []):=t4 _ _ (u _ _ ak);have qr:(upd (upd (upd (upd H pf (.lst [])) q0 (.tup [])) q1 (.tup [V.ref q0,v])) pw (.lst [V.ref q1])) q1=some (.tup [V.ref q0,v]):=t4 _ _ ak;have hf0:(upd (upd (upd (upd H pf (.lst [])) q0 (.tup [])) q1 (.tup [V.ref q0,v])) pw (.lst [V.ref q1])) pf=some (.lst []):=t4 _ _ (u _ _ (t2 _ _ ak));have hw0:(upd (upd (upd (upd H pf (.lst [])) q0 (.tup [])) q1 (.tup [V.ref q0,v])) pw (.lst [V.ref q1])) pw=some (.lst [V.ref q1]):=ak;have sm0:=t1.trans (t2.trans (u.trans t4));generalize upd (upd (upd (upd H pf (.lst [])) q0 (.tup [])) q1 (.tup [V.ref q0,v])) pw (.lst [V.ref q1])=H0 at hq0 qr hf0 hw0 sm0⊢;clear t1 t2 u t4 e0 e1 hpw;let Iw:Nat->L2.St->Hp->Prop:=λn C H'=>∃(st fo:List Rp)(ws fs:List V)(U X Y J L:Option V),C=[some v,some (.ref b),some (.ref pf),some (.ref pw),U,X,Y,J,L]/\n=(st.map λr=>aC r.2).sum/\Wk H H' d b pf pw (e9 aH) st fo ws fs;refine⟨Iw,⟨_,[([],d)],[],[V.ref q1],[],none,none,none,none,none,rfl,rfl,?_⟩,?_⟩;·refine⟨hw0,hf0,⟨_,_,rfl,⟨q1,_,rfl,qr,⟨_,_,rfl,⟨q0,[],rfl,hq0,rfl⟩,⟨_,_,rfl,r.mono sm0,rfl⟩⟩⟩,rfl⟩,rfl,by simp,λx hx=>?_,by simpa using hkn,sm0⟩;rw[List.mem_singleton.mp hx];exact⟨wf,by simpa using hdp⟩
 rintro n C S⟨st,fo,ws,fs,U,X,Y,J,L,rfl,rfl,W⟩;have lws:=W.ir.length;rw[dI]at lws;refine⟨_,rfl,pw,_,rfl, .inl (bH.of W.hw),_,_,rfl,rfl,_,rfl,?_⟩;refine aY (λc=>?_) (λc=>?_)
 ·have c:(0:Int)<((ws.length:Nat):Int):=of_decide_eq_true c;have xP:st≠[]:=λz=>by subst z;have h0:ws.length=0:=lws;lia
  obtain⟨p,⟨pl,e⟩,rfl⟩:∃p x,st=p++[x]:=⟨st.dropLast,st.getLast xP,(List.dropLast_concat_getLast xP).symm⟩;have rws:=W.ir;rw[pG,List.map_singleton]at rws;obtain⟨g,y,rfl,aeO,ry⟩:=zY rws;obtain⟨wfe,dpe⟩:=W.ok (pl,e) (by simp);have wfe:Wf e:=wfe;have dpe:pl.length+depth e<=75:=dpe;obtain⟨qy,_,rfl,hqy,⟨plv,_,rfl,YQ,⟨G,_,rfl,re,aee⟩⟩⟩:=ry;cases(show _=[]from aee);have Xj:=W.kn;rw[pG,List.sum_append]at Xj;have hke:(List.map (λr:Rp=>aC r.2) [(pl,e)]).sum=aC e:=by simp
  rw[hke]at Xj;have T:=W.all;rw[List.reverse_append,List.reverse_singleton,List.singleton_append,List.flatMap_cons]at T;obtain⟨x,ps,k,rfl,NC,Dc⟩:=kZ wfe;have hkk:=jm NC;rw[hkk.1]at Xj;let Nw:L2.St->Hp->Prop:=λC H'=>∃(st fo:List Rp)(ws fs:List V)(U X Y J L:Option V),C=[some v,some (.ref b),some (.ref pf),some (.ref pw),U,X,Y,J,L]/\(st.map λr=>aC r.2).sum+1=((p++[(pl,KM.D.tup (.str x::ps))]).map λr=>aC r.2).sum/\Wk H H' d b pf pw (e9 aH) st fo ws fs;refine⟨Nw,?_,?_⟩;·rintro C H'⟨st,fo,ws,fs,U,X,Y,J,L,rfl,hm,W'⟩;exact⟨_,by lia,st,fo,ws,fs,U,X,Y,J,L,rfl,rfl,W'⟩
  refine A9 ?_;intro _ _ _ _;have sm1:aM H (upd S pw (.lst g)):=d_ W.sm aa_;refine⟨_,rfl, .inl ⟨rfl,_,bH.of W.hw⟩,pw,_, .ref qy,rfl,rfl,W.hw,(by simp),?_⟩;rw[List.dropLast_concat];have nqy:qy≠pw:=λz=>by rw[z,W.hw]at hqy;cases hqy
  have hw2:(upd S pw (.lst g)) pw=some (.lst g):=ak;have hf2:(upd S pw (.lst g)) pf=some (.lst fs):=by rw[aZ npf];exact W.hf
  have abz:(upd S pw (.lst g)) qy=some (.tup [plv,G]):=by rw[aZ nqy];exact hqy
  have ac7:=aeO.gX (o:= .lst g) W.hw;have rf2:=W.rf.gX (o:= .lst g) W.hw;have abF:=YQ.gX (o:= .lst g) W.hw;have re2:=re.gX (o:= .lst g) W.hw;generalize upd S pw (.lst g)=H2 at sm1 hw2 hf2 abz ac7 rf2 abF re2⊢;refine⟨qy,_,rfl,bS.of abz,rfl,_,_,rfl,_,_,rfl,rfl,?_⟩;refine⟨_,rfl, .inl ⟨rfl,_,bH.of hf2⟩,_,rfl,_,rfl,_,rfl,_,rfl,_,G,b,aH,rfl,re2,wfe,sm1 _ _ hb,λH3 s3=>⟨(cN rfl),λq3 e3=>?_⟩⟩;have u:=aq e3 (.tup [plv,G,bI (e9 aH) (.tup (.str x::ps))]);have m:=s3.trans u;have lf:=rf2.length;rw[dI]at lf;have lfo:fs.length<16777216:=by have h1:=congrArg List.length T;rw[iJ]at h1;have h2:=oy [] d;lia
  refine⟨pf,_,_,rfl,rfl,m _ _ hf2,(by rw[sizeLine_eq];exact lfo),?_⟩;have hq3:(upd H3 q3 (.tup [plv,G,bI (e9 aH) (.tup (.str x::ps))])) q3=some (.tup [plv,G,bI (e9 aH) (.tup (.str x::ps))]):=ak;have hf3:=m _ _ hf2;have hw3:=m _ _ hw2;have sm3:=sm1.trans m;have ab3:=ac7.mono m;have rf3:=rf2.mono m;have Z7:=abF.mono m;have re3:=re2.mono m;generalize upd H3 q3 (.tup [plv,G,bI (e9 aH) (.tup (.str x::ps))])=H4 at hq3 hf3 hw3 sm3 ab3 rf3 Z7 re3⊢;clear m u e3 s3;have aeD:Rep H4 (Nj (e9 aH) (pl, .tup (.str x::ps))) (.ref q3):=⟨q3,_,rfl,hq3,⟨_,_,rfl,Z7,⟨_,_,rfl,re3,⟨_,_,rfl,OT wfe,rfl⟩⟩⟩⟩;have sm4:aM H (upd H4 pf (.lst (fs++[V.ref q3]))):=d_ sm3 hpf;have hf4:(upd H4 pf (.lst (fs++[V.ref q3]))) pf=some (.lst (fs++[V.ref q3])):=ak;have hw4:(upd H4 pf (.lst (fs++[V.ref q3]))) pw=some (.lst g):=by rw[aZ npf.symm];exact hw3
  have adG:=ab3.gX (o:= .lst (fs++[V.ref q3])) hf3;have rf4:=(rf3.append (bz.one aeD)).gX (o:= .lst (fs++[V.ref q3])) hf3;have aaN:=Z7.gX (o:= .lst (fs++[V.ref q3])) hf3;have re4:=re3.gX (o:= .lst (fs++[V.ref q3])) hf3;generalize upd H4 pf (.lst (fs++[V.ref q3]))=H5 at sm4 hf4 hw4 adG rf4 aaN re4⊢;refine⟨_,rfl,x,ps,G,rfl,re4,Dc,λpk us H6 hpk I h6 r6=>?_⟩;have l6:=r6.length;have hk4:=C8 NC;have npk:pk≠pw:=λz=>by rw[z,hw4]at hpk;cases hpk
  refine⟨_,rfl,pk,_,rfl, .inl (bH.of h6),_,rfl,(by show-(2^62)<=((us.length:Nat):Int);lia),(by show((us.length:Nat):Int)<2^62;lia),?_⟩;obtain⟨pa,pvs,rfl,Zn,rpa⟩:=id aaN;have lpa:=rpa.length;rw[dI]at lpa;have nk:us.length=(az x ps).length:=l6;have hw6:=I _ _ hw4;have hf6:=I _ _ hf4;have X7:=I _ _ Zn;have afF:=adG.mono I;have rf6:=rf4.mono I;have re6:=re4.mono I;have sm6:=sm4.trans I;let zx:Nat->L2.St->Hp->Prop:=(λj C H'=>∃(R:List V)(sv nv:Option V),C=[some v,some (.ref b),some (.ref pf),some (.ref pw),some (.ref pa),some G,some (.ref pk),sv,nv]/\H' pw=some (.lst R)/\bz H' ((p++(List.range j).map λt=>((pl++[us.length-1-t],((az x ps)[us.length-1-t]?).getD .aW):Rp)).map stD) R/\bx pw H6 H');refine gy us.length zx ?_ ?_ ?_;·exact⟨g,J,L,rfl,hw6,by simpa using afF,λ_ _ _ h=>h⟩
  ·rintro j C H7 hj⟨R,sv,nv,rfl,hw7,S8,B⟩;refine⟨hj,?_⟩;rintro x' H7'⟨rfl,rfl⟩;have e0:(0:Int)+(j:Int)=((j:Nat):Int):=by lia
   rw[e0];have h67:=B _ _ npk h6;have aeZ:=B _ _ (λz=>by rw[z,hw6]at X7;cases X7) X7;obtain⟨F,C5⟩:∃F,(az x ps)[us.length-1-j]?=some F:=⟨_,gM (by lia)⟩;obtain⟨ui,Sm,Uz⟩:=r6.get C5;have aeK:=Uz.gU B (cf hw6);have ad0:bz _ (pl.map λi=>KM.D.int (i:Nat)) pvs:=(rpa.mono I).gU B (cf hw6);refine⟨_,rfl,pk,_,rfl, .inl (bH.of h67),_,_,rfl,rfl,_,rfl,_,_,rfl,rfl,?_⟩;have en:((us.length:Nat):Int)-1-((j:Nat):Int)=((us.length-1-j:Nat):Int):=by lia
   show j4 8 (V.int (((us.length:Nat):Int)-1-((j:Nat):Int))) _ _ _;rw[en];refine⟨_,rfl, .inl ⟨rfl,_,bH.of hw7⟩,_,rfl,_,rfl,(cN rfl),λq5 e5=>?_⟩;have t5:=aq e5 (.tup [V.int ((us.length-1-j:Nat):Int)]);refine⟨pa,q5,_,_,rfl,rfl,t5 _ _ aeZ,ak,?_,λN H8 s8 h8=>?_⟩;·rw[EY,sizeLine_eq];lia
   have t58:=t5.trans s8;refine⟨_,rfl,_,rfl,pk,_,_,ui,rfl,rfl,bH.of (t58 _ _ h67),aE Sm,(cN rfl),λO e7=>?_⟩;have t9:=aq e7 (.tup [V.ref N,ui]);have Z:=t58.trans t9;have lw7:=S8.length;rw[dI,iJ,dI,List.length_range]at lw7;have afJ:p.length<=1000000:=by
    have h1:∀l:List Rp,(∀x∈l,Wf x.2)->l.length<=(l.map λr=>aC r.2).sum:=λl=>by
     induction l with
      |nil=>intro _;exact eB _
      |cons a l ih=>
       intro h;have h2:=ih λx hx=>h x (dW _ hx);obtain⟨k',He⟩:=h a d4;obtain⟨x',ps',e'⟩:=cz He;have h3:1<=aC a.2:=by rw[e'];simp only[aC];lia
       rw[d7,List.sum_cons,cF];lia
    have :=h1 p λx hx=>(W.ok x (qP _ hx)).1;lia
   refine⟨pw,R,_,rfl,rfl,Z _ _ hw7,(by rw[sizeLine_eq];lia),?_⟩;have hq7:(upd H8 O (.tup [V.ref N,ui])) O=some (.tup [V.ref N,ui]):=ak;have h89:=t9 _ _ h8;have aeR:Rep (upd H8 O (.tup [V.ref N,ui])) (WX (pl++[us.length-1-j])) (.ref N):=by refine⟨N,_,rfl,h89,?_⟩;rw[pG];exact(ad0.mono Z).append ⟨_,_,rfl,rfl,rfl⟩
   have aeY:Rep (upd H8 O (.tup [V.ref N,ui])) (stD (pl++[us.length-1-j],F)) (.ref O):=⟨O,_,rfl,hq7,⟨_,_,rfl,aeR,⟨_,_,rfl,aeK.mono Z,rfl⟩⟩⟩;have aeg:=(S8.mono Z).append (bz.one aeY);refine⟨R++[V.ref O],_,_,rfl,ak,?_,B.trans (Z.x.trans (bx.upd _))⟩;have el:(p++(List.range (j+1)).map λt=>((pl++[us.length-1-t],((az x ps)[us.length-1-t]?).getD .aW):Rp)).map stD=(p++(List.range j).map λt=>((pl++[us.length-1-t],((az x ps)[us.length-1-t]?).getD .aW):Rp)).map stD++[stD (pl++[us.length-1-j],F)]:=by rw[List.range_succ];simp[C5]
   rw[el];exact aeg.gX (Z _ _ hw7)
  ·rintro C H7⟨R,sv,nv,rfl,hw7,S8,B⟩;refine⟨bK _,?_⟩;have ab6:((List.range us.length).map λt=>((pl++[us.length-1-t],((az x ps)[us.length-1-t]?).getD .aW):Rp)).reverse=(List.range us.length).map λi=>((pl++[i],((az x ps)[i]?).getD .aW):Rp):=Uj (λi=>((pl++[i],((az x ps)[i]?).getD .aW):Rp)) us.length;have abc:(((List.range us.length).map λt=>((pl++[us.length-1-t],((az x ps)[us.length-1-t]?).getD .aW):Rp)).map (λr=>aC r.2)).sum=((az x ps).map aC).sum:=by rw[<-List.sum_reverse,<-List.map_reverse,ab6,List.map_map,nk];exact congrArg List.sum (M8 aC .aW (az x ps))
   refine⟨p++(List.range us.length).map λt=>((pl++[us.length-1-t],((az x ps)[us.length-1-t]?).getD .aW):Rp),fo++[(pl, .tup (.str x::ps))],R,fs++[V.ref q3],_,_,_,_,_,rfl,?_,⟨hw7,B _ _ npf hf6,S8,?_,?_,?_,?_,?_⟩⟩
   ·rw[pG,List.sum_append,abc,pG,List.sum_append];have e1:(List.map (λr:Rp=>aC r.2) [(pl,KM.D.tup (.str x::ps))]).sum=aC (.tup (.str x::ps)):=by simp
    rw[e1,hkk.1];lia
   ·rw[pG,List.map_singleton];exact rf6.gU B (cf hw6)
   ·rw[<-T,List.reverse_append,List.flatMap_append,ab6,E2,qm,nk];simp
   ·intro x' hx';rcases List.mem_append.mp hx' with h|h;·exact W.ok x' (qP _ h)
    ·obtain⟨i,hi,rfl⟩:=List.mem_map.mp h;have hi:=List.mem_range.mp hi;obtain⟨F,C5⟩:∃F,(az x ps)[us.length-1-i]?=some F:=⟨_,gM (by lia)⟩;obtain⟨w1,w2⟩:=jo NC C5;rw[C5];refine⟨w1,?_⟩;rw[iJ,EY];show pl.length+1+depth F<=75;lia
   ·rw[pG,List.sum_append,abc];lia
   ·exactλb' o' h'=>B _ _ (aX h' aa_) (sm6 _ _ h')
 ·have c:¬(0:Int)<((ws.length:Nat):Int):=of_decide_eq_false (Bool.eq_false_iff.mpr c);have L6:st=[]:=List.length_eq_zero_iff.mp (by lia);subst L6;have T:=W.all;rw[List.reverse_nil,List.flatMap_nil,kS]at T;have rf:=W.rf;rw[T]at rf;exact⟨_,rfl,q pf fs S hpf W.sm W.hf rf⟩
end K23
end
section
namespace L3
open PySem PySem.Spec PyProof.Rows L2 KM
noncomputable def eqB(p:Prop):Bool:=@decide p (Classical.propDecidable p)
theorem mY{p:Prop}(h:p):eqB p=true:=@decide_eq_true p (Classical.propDecidable p) h
theorem fP{p:Prop}(h:¬p):eqB p=false:=@decide_eq_false p (Classical.propDecidable p) h
theorem aar{p:Prop}(h:eqB p=true):p:=@of_decide_eq_true p (Classical.propDecidable p) h
mutual/--no truths within -/noncomputable def Sj:D->Bool| .bl _=>false| .tup ds=>FK ds|_=>true noncomputable def FK:List D->Bool|[]=>true|d::ds=>Sj d&&FK ds end
mutual theorem IF{H:Hp}:∀{d e:D}{v:V},Rep H d v->Rep H e v->d=e
 | .aW,e,v,h,h'=>by cases(show v=V.aW from h);cases e with|aW=>rfl|bl b=>cases(show V.aW=V.bl b from h')|int i=>cases(show V.aW=V.int i from h')|str x=>cases(show V.aW=V.str x from h'.1)|tup es=>obtain⟨a,vs,e,_⟩:=h';cases e
 | .bl c,e,v,h,h'=>by cases(show v=V.bl c from h);cases e with|aW=>cases(show V.bl c=V.aW from h')|bl b=>cases(show V.bl c=V.bl b from h');rfl|int i=>cases(show V.bl c=V.int i from h')|str x=>cases(show V.bl c=V.str x from h'.1)|tup es=>obtain⟨a,vs,e,_⟩:=h';cases e
 | .int c,e,v,h,h'=>by cases(show v=V.int c from h);cases e with|aW=>cases(show V.int c=V.aW from h')|bl b=>cases(show V.int c=V.bl b from h')|int i=>cases(show V.int c=V.int i from h');rfl|str x=>cases(show V.int c=V.str x from h'.1)|tup es=>obtain⟨a,vs,e,_⟩:=h';cases e
 | .str c,e,v,h,h'=>by cases(show v=V.str c from h.1);cases e with|aW=>cases(show V.str c=V.aW from h')|bl b=>cases(show V.str c=V.bl b from h')|int i=>cases(show V.str c=V.int i from h')|str x=>cases(show V.str c=V.str x from h'.1);rfl|tup es=>obtain⟨a,vs,e,_⟩:=h';cases e
 | .tup ds,e,v,h,h'=>by obtain⟨a,vs,rfl,ha,r⟩:=h;cases e with|aW=>cases(show V.ref a=V.aW from h')|bl b=>cases(show V.ref a=V.bl b from h')|int i=>cases(show V.ref a=V.int i from h')|str x=>cases(show V.ref a=V.str x from h'.1)|tup es=>obtain⟨a',vs',e,ha',r'⟩:=h';cases e;rw[ha]at ha';cases ha';rw[ES r r']theorem ES{H:Hp}:∀{ds es:List D}{vs:List V},bz H ds vs->bz H es vs->ds=es
 |[],es,vs,h,h'=>by cases(show vs=[]from h);cases es with|nil=>rfl|cons e es=>obtain⟨v,r,z,_⟩:=h';cases z
 |d::ds,es,vs,h,h'=>by obtain⟨v,r,rfl,q,t⟩:=h;cases es with|nil=>cases(show v::r=[]from h')|cons e es=>obtain⟨v',r',z,q',t'⟩:=h';cases z;rw[IF q q',ES t t']end
theorem QQ(ds es:List D):((List.range (min ds.length es.length)).all (λj=>eqB (ds[j]?=es[j]?))&&(ds.length==es.length))=eqB (D.tup ds=D.tup es):=by
 by_cases h:ds=es;·subst h;rw[mY rfl,cY];exact⟨List.all_eq_true.mpr λj _=>mY rfl,by simp⟩
 ·rw[fP (λz=>h (by injection z))];by_cases hl:ds.length=es.length
  ·have :¬(List.range (min ds.length es.length)).all (λj=>eqB (ds[j]?=es[j]?))=true:=λz=>h (List.ext_getElem? λi=>by
    by_cases hi:i<ds.length;·exact aar (List.all_eq_true.mp z i (List.mem_range.mpr (by lia)))
    ·rw[List.getElem?_eq_none (by lia),List.getElem?_eq_none (by lia)]);rw[Bool.eq_false_iff.mpr this,Bool.false_and]
  ·have :(ds.length==es.length)=false:=by simpa using hl
   rw[this,Bool.and_false]
section
variable{X:Cx}{pins:List (Addr×Obj)}{σ:L2.St}{H:Hp}{s:Shared}
mutual theorem Fs(I:Inv X pins σ H s):∀(d e:D)(A:Around)(v u:V)(a b:Value),Rep H d v->Rep H e u->L2.RelV v a->L2.RelV u b->Sj d=true->Sj e=true->A.units+depth d<cLine->SeqAt.EqAt A s a b (eqB (d=e))
 | .aW,e,A,v,u,a,b,r,r',k,k',n,n',hu=>by cases(show v=V.aW from r);cases(show a=Value.none from k);cases e with|aW=>cases(show u=V.aW from r');cases(show b=Value.none from k');rw[mY rfl];exact SeqAt.EqAt.same _|bl c=>cases n'|int i=>cases(show u=V.int i from r');obtain⟨t,rfl⟩:=k';rw[fP (λz=>by cases z)];exact SeqAt.EqAt.none_int i t|str x=>cases(show u=V.str x from r'.1);obtain⟨t,rfl⟩:=k';rw[fP (λz=>by cases z)];exact SeqAt.EqAt.none_str x t|tup es=>obtain⟨p,us,rfl,hp,rs⟩:=r';cases(show b=Value.ref p from k');obtain⟨a_,rv,pt,_⟩:=I.tuple (bS.of (K:=X.K) hp);rw[fP (λz=>by cases z)];exact SeqAt.EqAt.none_tuple pt (by lia)
 | .bl _,_,_,_,_,_,_,_,_,_,_,n,_,_=>by cases n
 | .int c,e,A,v,u,a,b,r,r',k,k',n,n',hu=>by
  cases(show v=V.int c from r);obtain⟨t0,rfl⟩:=k;cases e with
   |aW=>cases(show u=V.aW from r');cases(show b=Value.none from k');rw[fP (λz=>by cases z)];exact SeqAt.EqAt.int_none c t0
   |bl c=>cases n'
   |int i=>
    cases(show u=V.int i from r');obtain⟨t,rfl⟩:=k';have :eqB (D.int c=D.int i)=(c==i):=by
     by_cases h:c=i;·subst h;rw[mY rfl];simp
     ·rw[fP (λz=>h (by injection z))];simp[h]
    rw[this];exact SeqAt.EqAt.int_int c t0 i t
   |str x=>cases(show u=V.str x from r'.1);obtain⟨t,rfl⟩:=k';rw[fP (λz=>by cases z)];exact SeqAt.EqAt.int_str c t0 x t
   |tup es=>obtain⟨p,us,rfl,hp,rs⟩:=r';cases(show b=Value.ref p from k');obtain⟨a_,rv,pt,_⟩:=I.tuple (bS.of (K:=X.K) hp);rw[fP (λz=>by cases z)];exact SeqAt.EqAt.int_tuple c t0 pt (by lia)
 | .str c,e,A,v,u,a,b,r,r',k,k',n,n',hu=>by
  cases(show v=V.str c from r.1);obtain⟨t0,rfl⟩:=k;cases e with
   |aW=>cases(show u=V.aW from r');cases(show b=Value.none from k');rw[fP (λz=>by cases z)];exact SeqAt.EqAt.str_none c t0
   |bl c=>cases n'
   |int i=>cases(show u=V.int i from r');obtain⟨t,rfl⟩:=k';rw[fP (λz=>by cases z)];exact SeqAt.EqAt.str_int c t0 i t
   |str x=>
    cases(show u=V.str x from r'.1);obtain⟨t,rfl⟩:=k';have :eqB (D.str c=D.str x)=(c==x):=by
     by_cases h:c=x;·subst h;rw[mY rfl];simp
     ·rw[fP (λz=>h (by injection z))];simp[h]
    rw[this];exact SeqAt.EqAt.str_str c t0 x t
   |tup es=>obtain⟨p,us,rfl,hp,rs⟩:=r';cases(show b=Value.ref p from k');obtain⟨a_,rv,pt,_⟩:=I.tuple (bS.of (K:=X.K) hp);rw[fP (λz=>by cases z)];exact SeqAt.EqAt.str_tuple c t0 pt (by lia)
 | .tup ds,e,A,v,u,a,b,r,r',k,k',n,n',hu=>by
  obtain⟨q,vs,rfl,hq,rd⟩:=id r;cases(show a=Value.ref q from k);obtain⟨a_,rv,pt,_⟩:=I.tuple (bS.of (K:=X.K) hq);have U_:A.units<cLine:=by lia
  cases e with
   |aW=>cases(show u=V.aW from r');cases(show b=Value.none from k');rw[fP (λz=>by cases z)];exact SeqAt.EqAt.tuple_none pt U_
   |bl c=>cases n'
   |int i=>cases(show u=V.int i from r');obtain⟨t,rfl⟩:=k';rw[fP (λz=>by cases z)];exact SeqAt.EqAt.tuple_int i t pt U_
   |str x=>cases(show u=V.str x from r'.1);obtain⟨t,rfl⟩:=k';rw[fP (λz=>by cases z)];exact SeqAt.EqAt.tuple_str x t pt U_
   |tup es=>
    obtain⟨p,us,rfl,hp,re⟩:=id r';cases(show b=Value.ref p from k');obtain⟨kU,JC,Sr,_⟩:=I.tuple (bS.of (K:=X.K) hp);by_cases VW:q=p;·subst VW;rw[mY (IF r r')];exact SeqAt.EqAt.same _
    ·have l1:=rv.length;have l2:=JC.length;have l3:=rd.length;have l4:=re.length;have hd:depth (.tup ds)=1+aD ds:=by simp[depth]
     rw[<-QQ];have s1:a_.toArray.size=ds.length:=by rw[dq];lia
     have s2:kU.toArray.size=es.length:=by rw[dq];lia
     have :=SeqAt.EqAt.of_refs VW (SeqAt.RcAt.tuples (A:=A) pt Sr U_ (e:=λj=>eqB (ds[j]?=es[j]?)) λj h1 h2=>by have :=As I ds es A.in1 vs us a_ kU rd re rv JC n n' (by show A.units+1+aD ds<cLine;lia) j (by simpa using h1) (by simpa using h2);simpa using this);rw[s1,s2]at this;exact this theorem As(I:Inv X pins σ H s):∀(ds es:List D)(A:Around)(vs us:List V)(a_ kU:List Value),bz H ds vs->bz H es us->Vals vs a_->Vals us kU->FK ds=true->FK es=true->A.units+aD ds<cLine->∀(j:Nat)(h1:j<a_.length)(h2:j<kU.length),SeqAt.EqAt A s a_[j] kU[j] (eqB (ds[j]?=es[j]?))
 |[],es,A,vs,us,a_,kU,r,r',k,k',n,n',hu,j,h1,h2=>by cases(show vs=[]from r);cases k;exact absurd h1 (Nat.not_lt_zero _)
 |d::ds,[],A,vs,us,a_,kU,r,r',k,k',n,n',hu,j,h1,h2=>by cases(show us=[]from r');cases k';exact absurd h2 (Nat.not_lt_zero _)
 |d::ds,e::es,A,vs,us,a_,kU,r,r',k,k',n,n',hu,j,h1,h2=>by
  obtain⟨v,vs,rfl,q,t⟩:=r;obtain⟨u,us,rfl,q',t'⟩:=r';have n:(Sj d&&FK ds)=true:=n;have n':(Sj e&&FK es)=true:=n';rw[cY]at n n';have hd:aD (d::ds)=max (depth d) (aD ds):=by simp[aD]
  cases k with
   |cons k1 k2=>
    cases k' with
     |cons k1' k2'=>
      cases j with
       |zero=>
        have :=Fs I d e A v u _ _ q q' k1 k1' n.1 n'.1 (by lia);have e1:eqB ((d::ds)[0]?=(e::es)[0]?)=eqB (d=e):=by
         by_cases h:d=e;·rw[mY h,mY (by rw[h];rfl)]
         ·rw[fP h,fP (λz=>h (by simpa using z))]
        rw[e1];exact this
       |succ j=>exact As I ds es A vs us _ _ t t' k2 k2' n.2 n'.2 (by lia) j (by simpa using h1) (by simpa using h2)end
end
noncomputable def Ml(c:Bool):Value->Bool| .bool b=>b==c|_=>false
theorem xO:∀{bs:List Bool}{a:List Value},Vals (bs.map V.bl) a->a=bs.map Value.bool|[],_, .nil=>rfl|b::bs,_, .cons h r=>by rw[show _=Value.bool b from h,xO r];rfl
theorem JA{A:Around}{s:Shared}(c:Bool)(bs:List Bool):∀y,y∈(bs.map Value.bool).toArray->SeqAt.EqAt A s y (.bool c) (Ml c y):=λy h=>by
 have h:y∈bs.map Value.bool:=by simpa using h
 obtain⟨b,_,rfl⟩:=List.mem_map.mp h;exact SeqAt.EqAt.bool_bool b c
noncomputable def T9(K:PySem.W.Frag):V->List V->Hp->VK->Prop:=λx vs H Q=>∃(l:Addr)(bs:List Bool)(c:Bool),x= .ref l/\vs=[.bl c]/\bH K H l (bs.map V.bl)/\Q (.int (bs.count c:Nat)) H
theorem LL{X:Cx}:MtR X "list.count" (T9 X.K):=by
 intro pins s σ H x vs v us Q I f e h;obtain⟨l,bs,c,rfl,rfl,hq,q⟩:=h;cases f;obtain⟨u,rfl,d⟩:=e.one;cases(show u=Value.bool c from d);obtain⟨i,r,pl,g⟩:=I.list hq;cases xO r;obtain⟨⟨cls,b,data,sl⟩,a,hc,n,hd⟩:=id pl.isList;simp only at hc hd;subst hc hd;refine call_meets PySem.F.slot_list_count ⟨_,a,rfl⟩ PySem.F.entry_list_count (PySem.F.args_list_count_2 _ _) (SeqAt.list_countAt l (bs.map Value.bool).toArray n b sl (.bool c) (Ml c)) ⟨a,JA c bs,⟨.int (bs.count c:Nat),H,I.tok _,⟨s.toks,?_⟩,q⟩⟩;have :(bs.map Value.bool).countP (Ml c)=bs.count c:=by rw[List.countP_map];rfl
 rw[List.toList_toArray,this]
theorem yZ{k:Bool}:∀{ns:List Bool}{j:Nat},j<ns.idxOf k->∀(h2:j<ns.length),(ns[j]==k)=false
 |n::r,0,h,_=>by
  by_cases e:n=k;·subst e;simp at h
  ·simpa using e
 |n::r,j+1,h,h2=>by
  by_cases e:n=k;·subst e;simp at h
  ·have hb:(n==k)=false:=by simpa using e
   have h':j<r.idxOf k:=by rw[List.idxOf_cons,hb]at h;exact Nat.lt_of_succ_lt_succ h
   exact yZ h' (Nat.lt_of_succ_lt_succ h2)
noncomputable def UC(K:PySem.W.Frag):V->List V->Hp->VK->Prop:=λx vs H Q=>∃(l:Addr)(bs:List Bool)(c:Bool),x= .ref l/\vs=[.bl c]/\bH K H l (bs.map V.bl)/\c∈bs/\bs.length<=100000/\Q (.int (bs.idxOf c:Nat)) H
theorem Nn{X:Cx}:MtR X "list.index" (UC X.K):=by
 intro pins s σ H x vs v us Q I o m h;obtain⟨l,bs,c,rfl,rfl,hq,hc,hl,q⟩:=h;cases o;obtain⟨u,rfl,k⟩:=m.one;cases(show u=Value.bool c from k);obtain⟨t,r,pl,p⟩:=I.list hq;cases xO r;obtain⟨⟨cls,d,data,sl⟩,b,a,n,hd⟩:=id pl.isList;simp only at a hd;subst a hd;have e:bs.idxOf c<bs.length:=List.idxOf_lt_length_iff.mpr hc;refine call_meets PySem.F.slot_list_index ⟨_,b,rfl⟩ PySem.F.entry_list_index (PySem.F.args_list_index_2 _ _) (SeqAt.list_indexAt l (bs.map Value.bool).toArray n d sl (.bool c) (Ml c) (bs.idxOf c) (by simpa using e) (by lia) ?_ ?_) ⟨b,JA c bs,⟨.int (bs.idxOf c:Nat),H,I.tok _,⟨_,rfl⟩,q⟩⟩;·simp[Ml]
 ·intro j g i;have f:j<bs.length:=by simpa using g
  have :(bs[j]==c)=false:=yZ i f;simpa[Ml]using this
inductive DX|d(x:D)|tup(xs:List DX)|lst(xs:List DX)
mutual noncomputable def Hl(H:Hp):DX->V->Prop| .d x,v=>Rep H x v| .tup xs,v=>∃a vs,v= .ref a/\H a=some (.tup vs)/\fI H xs vs| .lst xs,v=>∃a vs,v= .ref a/\H a=some (.lst vs)/\fI H xs vs noncomputable def fI(H:Hp):List DX->List V->Prop|[],vs=>vs=[]|x::xs,vs=>∃v r,vs=v::r/\Hl H x v/\fI H xs r end
mutual noncomputable def nbX:DX->Bool| .d x=>Sj x| .tup xs=>BB xs| .lst xs=>BB xs noncomputable def BB:List DX->Bool|[]=>true|x::xs=>nbX x&&BB xs end
mutual noncomputable def Vm:DX->Nat| .d x=>depth x| .tup xs=>1+jO xs| .lst xs=>1+jO xs noncomputable def jO:List DX->Nat|[]=>0|x::xs=>max (Vm x) (jO xs)end
theorem fI.length{H:Hp}:∀{xs:List DX}{vs:List V},fI H xs vs->vs.length=xs.length|[],vs,h=>by rw[show vs=[]from h];rfl|x::xs,_,⟨v,r,e,_,h⟩=>by rw[e,cF,cF,fI.length h]
section
variable{X:Cx}{pins:List (Addr×Obj)}{σ:L2.St}{H:Hp}{s:Shared}
mutual theorem eqX(I:Inv X pins σ H s):∀(x:DX)(A:Around)(v u:V)(a b:Value),Hl H x v->Hl H x u->L2.RelV v a->L2.RelV u b->nbX x=true->A.units+Vm x<cLine->SeqAt.EqAt A s a b true
 | .d x,A,v,u,a,b,r,r',k,k',n,hu=>by have :=Fs I x x A v u a b r r' k k' n n hu;rw[mY rfl]at this;exact this
 | .tup xs,A,v,u,a,b,r,r',k,k',n,hu=>by
  obtain⟨q,vs,rfl,hq,rd⟩:=r;obtain⟨p,us,rfl,hp,re⟩:=r';cases(show a=Value.ref q from k);cases(show b=Value.ref p from k');obtain⟨a_,rv,pt,_⟩:=I.tuple (bS.of (K:=X.K) hq);obtain⟨kU,JC,Sr,_⟩:=I.tuple (bS.of (K:=X.K) hp);have hd:Vm (.tup xs)=1+jO xs:=by simp[Vm]
  by_cases VW:q=p;·subst VW;exact SeqAt.EqAt.same _
  ·have l1:=rv.length;have l2:=JC.length;have l3:=fI.length rd;have l4:=fI.length re;have :=SeqAt.EqAt.of_refs VW (SeqAt.RcAt.tuples (A:=A) pt Sr (by lia) (e:=λ_=>true) λj h1 h2=>by have :=Ql I xs A.in1 vs us a_ kU rd re rv JC n (by show A.units+1+jO xs<cLine;lia) j (by simpa using h1) (by simpa using h2);simpa using this);have e:((List.range (min a_.toArray.size kU.toArray.size)).all (λ_=>true)&&a_.toArray.size==kU.toArray.size)=true:=by rw[cY];refine⟨by simp,?_⟩;simp only[dq,beq_iff_eq];lia
   rw[e]at this;exact this
 | .lst xs,A,v,u,a,b,r,r',k,k',n,hu=>by
  obtain⟨q,vs,rfl,hq,rd⟩:=r;obtain⟨p,us,rfl,hp,re⟩:=r';cases(show a=Value.ref q from k);cases(show b=Value.ref p from k');obtain⟨a_,rv,pt,_⟩:=I.list (bH.of (K:=X.K) hq);obtain⟨kU,JC,Sr,_⟩:=I.list (bH.of (K:=X.K) hp);have hd:Vm (.lst xs)=1+jO xs:=by simp[Vm]
  by_cases VW:q=p;·subst VW;exact SeqAt.EqAt.same _
  ·have l1:=rv.length;have l2:=JC.length;have l3:=fI.length rd;have l4:=fI.length re;have :=SeqAt.EqAt.of_refs VW (SeqAt.RcAt.lists (A:=A) pt.isList Sr.isList (by simp only[dq];lia) (by lia) (e:=λ_=>true) λj h1 h2=>by have :=Ql I xs A.in1 vs us a_ kU rd re rv JC n (by show A.units+1+jO xs<cLine;lia) j (by simpa using h1) (by simpa using h2);simpa using this);have e:((List.range a_.toArray.size).all (λ_=>true))=true:=by simp
   rw[e]at this;exact this theorem Ql(I:Inv X pins σ H s):∀(xs:List DX)(A:Around)(vs us:List V)(a_ kU:List Value),fI H xs vs->fI H xs us->Vals vs a_->Vals us kU->BB xs=true->A.units+jO xs<cLine->∀(j:Nat)(h1:j<a_.length)(h2:j<kU.length),SeqAt.EqAt A s a_[j] kU[j] true
 |[],A,vs,us,a_,kU,r,r',k,k',n,hu,j,h1,h2=>by cases(show vs=[]from r);cases k;exact absurd h1 (Nat.not_lt_zero _)
 |x::xs,A,vs,us,a_,kU,r,r',k,k',n,hu,j,h1,h2=>by
  obtain⟨v,vs,rfl,q,t⟩:=r;obtain⟨u,us,rfl,q',t'⟩:=r';have n:(nbX x&&BB xs)=true:=n;rw[cY]at n;have hd:jO (x::xs)=max (Vm x) (jO xs):=by simp[jO]
  cases k with|cons k1 k2=>cases k' with|cons k1' k2'=>cases j with|zero=>exact eqX I x A v u _ _ q q' k1 k1' n.1 (by lia)|succ j=>exact Ql I xs A vs us _ _ t t' k2 k2' n.2 (by lia) j (by simpa using h1) (by simpa using h2)end
end
noncomputable def Y5(z:Bool):R2:=λx y H Q=>∃xs:List DX,Hl H (.tup xs) x/\Hl H (.tup xs) y/\BB xs=true/\jO xs<=80/\Q (.bl z) H
theorem Xn{X:Cx}(l:X.A.units+84<cLine):lj X (compareOp .Eq) (Y5 true):=by
 intro pins s σ H x y v u Q I i k h;obtain⟨xs,⟨q,vs,rfl,hq,rd⟩,⟨p,us,rfl,hp,a⟩,n,hd,h⟩:=h;cases i;cases k;obtain⟨d,b,pt,_⟩:=I.tuple (bS.of (K:=X.K) hq);obtain⟨f,c,g,_⟩:=I.tuple (bS.of (K:=X.K) hp);have m:=b.length;have o:=c.length;have r:=fI.length rd;have t:=fI.length a;refine SeqAt.eq_tupleAt pt g (e:=λ_=>true) (by lia) (λj h1 h2=>?_) ⟨.bl true,H,I,?_,h⟩;·have :=Ql I xs X.A.in1 vs us d f rd a b c n (by show X.A.units+1+jO xs<cLine;lia) j (by simpa using h1) (by simpa using h2);simpa using this
 ·show Value.bool _=Value.bool true;congr 1;rw[cY];refine⟨by simp,?_⟩;simp only[dq,beq_iff_eq];lia
section
variable{X:Cx}{tg:Expr}
end
end L3
end
section
namespace K23
open PySem L2 L3 KM PyProof.Rows
seal L2.PE L2.PS L2.iz L2.PT L2.PW L2.PA L2.PG L2.AR L2.PI L2.PC L2.PO L2.An L2.PK L3.AV L3.PH L3.PB
variable{P:Program}{w:World}{K:PySem.W.Frag}{mg:Str->Option Value}{base:Heap}{t:wY}
theorem uG:∀(pl:List Int)(d g:D),Wf d->goto d pl=some g->Wf g/\pl.length+depth g<=depth d
 |[],d,g,h,z=>by rw[goto]at z;cases z;exact⟨h,by simp⟩
 |i::is,d,g,h,z=>by
  cases c:dY d i with
   |none=>rw[iQ c]at z;cases z
   |some p=>
    rw[fi c]at z;obtain⟨a,b⟩:=uG is p g (nc h c) z;have :depth p<depth d:=by
     obtain⟨k,h⟩:=h;obtain⟨x,ps,rfl⟩:=cz h;unfold dY at c;split at c;·exact(jo h c).2
     ·cases c
    exact⟨a,by rw[cF];lia⟩
theorem OV{e g:D}:∀(pl:List Int)(d:D),Wf d->goto d pl=some g->depth (putD d pl e)<=depth d+(pl.length+depth e-depth d)|[],d,_,_=>by rw[putD,e_];lia|i::is,d,⟨k,h⟩,z=>by obtain⟨x,ps,rfl⟩:=cz h;cases a:dY (.tup (.str x::ps)) i with|none=>rw[iQ a]at z;cases z|some p=>rw[fi a]at z;rw[xo a];obtain⟨i0,b,hp⟩:=kO a;have a2:=OV (e:=e) is p (nc ⟨k,h⟩ a) z;have b2:=ox hp;have b3:=AJ (q:=putD p is e) (m:=aD ps+(is.length+depth e-aD ps)) (by lia) (ps:=ps) (i:=i.toNat) (by lia);rw[cF];simp only[depth,aD];lia
theorem jA{k:Bool}{x s:Str}{ps:List D}(cs:List Nat)(a:dJ x= .str s)(hc:s.cps.toList=cs)(h:bu aw k (.tup (.str x::ps))=true):hZ x=k/\dZ aw cs ps=true:=by obtain⟨s',e1,e2,e3,_⟩:=bM h;rw[a]at e1;cases e1;rw[hc]at e3;exact⟨e2,e3⟩
theorem ID{k:Bool}{a b:D}(h:bu aw k (.tup [.str "app",a,b])=true):k=false/\bu aw false a=true/\bu aw false b=true:=by obtain⟨e2,e3⟩:=jA [116,116] (s:="tt") (by decide+kernel) (by decide+kernel) h;rw[show hZ "app"=false by decide+kernel]at e2;simp[dZ]at e3;exact⟨e2.symm,e3.1,e3.2⟩
theorem Ki{k:Bool}{a b:D}(h:bu aw k (.tup [.str "fun",a,b])=true):bu aw true a=true/\bu aw false b=true:=by obtain⟨e2,e3⟩:=jA [107,116] (s:="kt") (by decide+kernel) (by decide+kernel) h;simp[dZ]at e3;exact⟨e3.1,e3.2⟩
theorem P0{k:Bool}{a:D}(h:bu aw k (.tup [.str "next",a])=true):bu aw false a=true:=by obtain⟨e2,e3⟩:=jA [116] (s:="t") (by decide+kernel) (by decide+kernel) h;simp[dZ]at e3;exact e3
theorem o9{k:Bool}{a:D}(h:bu aw k (.tup [.str "first",a])=true):k=false/\bu aw false a=true:=by obtain⟨e2,e3⟩:=jA [116] (s:="t") (by decide+kernel) (by decide+kernel) h;rw[show hZ "first"=false by decide+kernel]at e2;simp[dZ]at e3;exact⟨e2.symm,e3⟩
theorem lM{k:Bool}{a:D}(h:bu aw k (.tup [.str "second",a])=true):k=false/\bu aw false a=true:=by obtain⟨e2,e3⟩:=jA [116] (s:="t") (by decide+kernel) (by decide+kernel) h;rw[show hZ "second"=false by decide+kernel]at e2;simp[dZ]at e3;exact⟨e2.symm,e3⟩
theorem D6{k:Bool}{a b c:D}(h:bu aw k (.tup [.str "pair",a,b,c])=true):bu aw false b=true/\bu aw false c=true:=by obtain⟨e2,e3⟩:=jA [107,116,116] (s:="ktt") (by decide+kernel) (by decide+kernel) h;simp[dZ]at e3;exact⟨e3.2.1,e3.2.2⟩
theorem Mn{k:Bool}{a b c:D}(h:bu aw k (.tup [.str "carry",a,b,c])=true):k=false/\bu aw false b=true/\bu aw false c=true:=by obtain⟨e2,e3⟩:=jA [107,116,116] (s:="ktt") (by decide+kernel) (by decide+kernel) h;rw[show hZ "carry"=false by decide+kernel]at e2;simp[dZ]at e3;exact⟨e2.symm,e3.2.1,e3.2.2⟩
theorem CB{k:Bool}{a b c d:D}(h:bu aw k (.tup [.str "rec",a,b,c,d])=true):k=false/\bu aw true a=true/\bu aw false b=true/\bu aw false c=true/\bu aw false d=true:=by obtain⟨e2,e3⟩:=jA [107,116,116,116] (s:="kttt") (by decide+kernel) (by decide+kernel) h;rw[show hZ "rec"=false by decide+kernel]at e2;simp[dZ]at e3;exact⟨e2.symm,e3.1,e3.2.1,e3.2.2.1,e3.2.2.2⟩
theorem OR{k:Bool}{a:D}(h:bu aw k (.tup [.str "name",a])=true):k=false:=by obtain⟨e2,e3⟩:=jA [119] (s:="w") (by decide+kernel) (by decide+kernel) h;rw[show hZ "name"=false by decide+kernel]at e2;exact e2.symm
def BkB(inb:Str->Bool)(B:Str->D):Prop:=∀y,inb y=true->bu aw false (B y)=true/\depth (B y)<=16
theorem ib{x:Str}{ds:List D}{d:D}(h:d∈ds):depth d<depth (.tup (.str x::ds)):=by
 have c:∀(l:List D),d∈l->depth d<=aD l:=λl=>by
  induction l with
   |nil=>intro h;cases h
   |cons a l b=>
    intro h;rw[aD];rcases List.mem_cons.mp h with rfl|h;·exact Nat.le_max_left _ _
    ·exact c8 (b h) (Nat.le_max_right _ _)
 have k1:=c ds h;rw[depth,aD];exact Nat.lt_of_le_of_lt k1 (Nat.lt_of_le_of_lt (Nat.le_max_right _ _) (by rw[Nat.add_comm];exact Nat.lt_succ_self _))
theorem xY{x:Str}{ds:List D}{m:Nat}(h:∀d∈ds,depth d<=m):depth (.tup (.str x::ds))<=1+m:=by
 have c:∀(l:List D),(∀d∈l,depth d<=m)->aD l<=m:=λl=>by induction l with|nil=>intro _;exact eB _|cons a l b=>intro h;rw[aD];exact Nat.max_le.mpr ⟨h a d4,b λd hd=>h d (dW _ hd)⟩
 rw[depth,aD];exact Nat.add_le_add_left (Nat.max_le.mpr ⟨eB _,c ds h⟩) 1
theorem Mz{inb:Str->Bool}{B:Str->D}{e e':D}{r:Str}{g k:Bool}(z:BkB inb B)(h:Kj B e r e' g)(wf:bu aw k e=true)(A:bI inb e= .str r):bu aw k e'=true/\depth e'<=2*depth e+16:=by
 have i:∀{d:D},depth d<depth e->depth d<=2*depth e+16:=λh=>by lia
 cases h with
  |fn C E v u rz=>rename_i c bd o;obtain⟨rfl,w1,f⟩:=ID wf;obtain⟨l,j⟩:=Ki w1;obtain⟨q1,_,q3,_⟩:=gs (o:=o) (at_:=0) (Int.le_refl 0) f u 58 0 bd false (Int.le_refl 0) v j;refine⟨q1,?_⟩;have a1:depth o<_:=ib (x:="app") (ds:=[.tup [.str "fun",c,bd],o]) (by simp);have a2:depth bd<_:=ib (x:="fun") (ds:=[c,bd]) (by simp);have a3:depth (.tup [.str "fun",c,bd])<_:=ib (x:="app") (ds:=[.tup [.str "fun",c,bd],o]) (by simp);exact c8 q3 (by lia)
  |zero=>obtain⟨rfl,w0,w1,f,l⟩:=CB wf;exact⟨w1,i (ib (by simp))⟩
  |Ze=>obtain⟨rfl,w1,f⟩:=Mn wf;exact⟨w1,i (ib (by simp))⟩
  |next=>
   rename_i k b s n;obtain⟨rfl,w0,w1,f,l⟩:=CB wf;have j:=P0 l;refine⟨oO (oO f j) (xm w0 w1 f j),?_⟩;have b0:depth k<_:=ib (x:="rec") (ds:=[k,b,s, .tup [.str "next",n]]) (by simp);have b1:depth b<_:=ib (x:="rec") (ds:=[k,b,s, .tup [.str "next",n]]) (by simp);have b2:depth s<_:=ib (x:="rec") (ds:=[k,b,s, .tup [.str "next",n]]) (by simp);have b3:depth (.tup [.str "next",n])<_:=ib (x:="rec") (ds:=[k,b,s, .tup [.str "next",n]]) (by simp);have q:depth n<_:=ib (x:="next") (ds:=[n]) (by simp);have p:depth n<_:=Nat.lt_trans q b3;have c1:depth (.tup [.str "app",s,n])<=1+depth (.tup [.str "rec",k,b,s, .tup [.str "next",n]]):=xY λd hd=>by
    simp only[gF,jf,or_false]at hd;rcases hd with rfl|rfl;·exact Nat.le_of_lt b2
    ·exact Nat.le_of_lt p
   have c2:depth (.tup [.str "rec",k,b,s,n])<=1+depth (.tup [.str "rec",k,b,s, .tup [.str "next",n]]):=xY λd hd=>by
    simp only[gF,jf,or_false]at hd;rcases hd with rfl|rfl|rfl|rfl;·exact Nat.le_of_lt b0
    ·exact Nat.le_of_lt b1
    ·exact Nat.le_of_lt b2
    ·exact Nat.le_of_lt p
   refine c8 (xY (m:=1+depth (.tup [.str "rec",k,b,s, .tup [.str "next",n]])) λd hd=>?_) (by lia);simp only[gF,jf,or_false]at hd;rcases hd with rfl|rfl;·exact c1
   ·exact c2
  |first=>obtain⟨rfl,w0⟩:=o9 wf;rename_i c y;have a1:depth (.tup [.str "pair",c,e',y])<_:=ib (x:="first") (ds:=[.tup [.str "pair",c,e',y]]) (by simp);exact⟨(D6 w0).1,i (Nat.lt_trans (ib (by simp)) a1)⟩
  |second=>obtain⟨rfl,w0⟩:=lM wf;rename_i c x;have a1:depth (.tup [.str "pair",c,x,e'])<_:=ib (x:="second") (ds:=[.tup [.str "pair",c,x,e']]) (by simp);exact⟨(D6 w0).2,i (Nat.lt_trans (ib (by simp)) a1)⟩
  |name=>rename_i y;cases OR wf;obtain⟨a,b⟩:=z y (Az A);exact⟨a,by lia⟩
theorem jv{k:Bool}{x s:Str}{ps:List D}(n:Nat)(a:dJ x= .str s)(hc:s.cps.toList.length=n)(h:bu aw k (.tup (.str x::ps))=true):ps.length=n:=by obtain⟨s',e1,_,_,_,b,_⟩:=bM h;rw[a]at e1;cases e1;lia
theorem adB{ps:List D}(h:ps.length=2):∃a b,ps=[a,b]:=by match ps,h with|[a,b],_=>exact⟨a,b,rfl⟩
theorem Ge{ps:List D}(h:ps.length=3):∃a b c,ps=[a,b,c]:=by match ps,h with|[a,b,c],_=>exact⟨a,b,c,rfl⟩
theorem four{ps:List D}(h:ps.length=4):∃a b c d,ps=[a,b,c,d]:=by match ps,h with|[a,b,c,d],_=>exact⟨a,b,c,d,rfl⟩
theorem Z_{inb:Str->Bool}{B:Str->D}{e:D}{r:Str}{k:Bool}(wf:bu aw k e=true)(hd:depth e<=45)(f:bI inb e= .str r):∃p:D×Bool,Kj B e r p.1 p.2:=by
 obtain⟨x,ps,rfl⟩:=cz wf;have f:eP inb x ps= .str r:=f;unfold eP at f;by_cases c1:x="name"
 ·subst c1;rw[if_pos rfl]at f;obtain⟨y,rfl⟩:=oR wf;have f:(if inb y=true then V.str "name"else .aW)= .str r:=f;split at f;·cases f;exact⟨(B y,false), .name⟩
  ·cases f
 rw[if_neg c1]at f;by_cases c2:x="app"
 ·subst c2;rw[if_pos rfl]at f;obtain⟨a,b,rfl⟩:=adB (jv 2 (s:="tt") (by decide+kernel) (by decide+kernel) wf);obtain⟨_,w1,u⟩:=ID wf;obtain⟨y,i,rfl⟩:=cz w1;have f:(if y="fun"then V.str "fun"else .aW)= .str r:=f;split at f
  ·rename_i g;subst g;cases f;obtain⟨k1,bd,rfl⟩:=adB (jv 2 (s:="kt") (by decide+kernel) (by decide+kernel) w1);obtain⟨v,h⟩:=Ki w1;have h1:depth bd<45:=by simp only[depth,aD]at hd;lia
   have h2:depth b<45:=by simp only[depth,aD]at hd;lia
   obtain⟨q1,_,q3,_⟩:=gs (o:=b) (at_:=0) (Int.le_refl 0) u (by lia) 58 0 bd false (Int.le_refl 0) (by lia) h;exact⟨(Bh b 0 bd,eL (Bh b 0 bd)), .fn ⟨_,h⟩ ⟨_,u⟩ (by lia) (by lia) ⟨⟨_,q1⟩,by show depth (lX (lI b 0) 58 0 bd)<100;lia,eB _⟩⟩
  ·cases f
 rw[if_neg c2]at f;by_cases j:x="carry"
 ·subst j;rw[if_pos rfl]at f;obtain⟨a,b,c,rfl⟩:=Ge (jv 3 (s:="ktt") (by decide+kernel) (by decide+kernel) wf);have f:(if zS c="like"then V.str "like"else .aW)= .str r:=f;split at f;·cases f;exact⟨(b,false), .Ze⟩
  ·cases f
 rw[if_neg j]at f;by_cases l:x="first"
 ·subst l;rw[if_pos rfl]at f;obtain⟨a,rfl⟩:=List.length_eq_one_iff.mp (jv 1 (s:="t") (by decide+kernel) (by decide+kernel) wf);obtain⟨y,i,rfl⟩:=cz (o9 wf).2;have f:(if y="pair"then V.str "first"else .aW)= .str r:=f;split at f;·rename_i g;subst g;cases f;obtain⟨a,b,c,rfl⟩:=Ge (jv 3 (s:="ktt") (by decide+kernel) (by decide+kernel) (o9 wf).2);exact⟨(b,false), .first⟩
  ·cases f
 rw[if_neg l]at f;by_cases n:x="second"
 ·subst n;rw[if_pos rfl]at f;obtain⟨a,rfl⟩:=List.length_eq_one_iff.mp (jv 1 (s:="t") (by decide+kernel) (by decide+kernel) wf);obtain⟨y,i,rfl⟩:=cz (lM wf).2;have f:(if y="pair"then V.str "second"else .aW)= .str r:=f;split at f;·rename_i g;subst g;cases f;obtain⟨a,b,c,rfl⟩:=Ge (jv 3 (s:="ktt") (by decide+kernel) (by decide+kernel) (lM wf).2);exact⟨(c,false), .second⟩
  ·cases f
 rw[if_neg n]at f;by_cases q:x="rec"
 ·subst q;rw[if_pos rfl]at f;obtain⟨a,b,c,d,rfl⟩:=four (jv 4 (s:="kttt") (by decide+kernel) (by decide+kernel) wf);obtain⟨_,_,_,_,h⟩:=CB wf;obtain⟨y,i,rfl⟩:=cz h;have f:(if y="zero"then V.str "zero"else if y="next"then V.str "next"else .aW)= .str r:=f;split at f;·cases f;exact⟨(b,false), .zero⟩
  split at f;·rename_i g;subst g;cases f;obtain⟨m,rfl⟩:=List.length_eq_one_iff.mp (jv 1 (s:="t") (by decide+kernel) (by decide+kernel) h);exact⟨(_,false), .next⟩
  ·cases f
 rw[if_neg q]at f;cases f
open Classical in noncomputable def DW(B:Str->D)(e:D)(r:Str):D×Bool:=if h:∃p:D×Bool,Kj B e r p.1 p.2 then h.choose else(.aW,false)
theorem TX{B:Str->D}{e:D}{r:Str}(h:∃p:D×Bool,Kj B e r p.1 p.2):Kj B e r (DW B e r).1 (DW B e r).2:=by unfold DW;rw[dif_pos h];exact h.choose_spec
noncomputable def adD(B:Str->D)(d:D)(pl:List Int)(e:D)(r:Str):D:=putD d pl (DW B e r).1
noncomputable def adb(B:Str->D)(d:D)(pl:List Int)(e:D)(r:Str):Bool:=(DW B e r).2||eL (adD B d pl e r)
structure Td(d:D):Prop where
 wf:Wf d
 dp:depth d<=40
 kn:aC d<=300000
theorem stC{inb:Str->Bool}{B:Str->D}{d e:D}{pl:List Int}{r:Str}(g:BkB inb B)(h:Td d)(a:goto d pl=some e)(c:bI inb e= .str r):TM inb B d pl r (DW B e r).1 (DW B e r).2/\(adb B d pl e r=false->Td (adD B d pl e r)):=by obtain⟨⟨k,wf⟩,hd,_⟩:=h;obtain⟨⟨i,b⟩,m⟩:=uG pl d e ⟨k,wf⟩ a;have ha:=TX (Z_ (B:=B) b (by lia) c);obtain⟨w1,j⟩:=Mz g ha b c;have f:=GD b w1 pl d k wf a;have l:=OV (e:=(DW B e r).1) pl d ⟨k,wf⟩ a;refine⟨⟨⟨e,a,⟨i,b⟩,c,ha⟩,⟨k,wf⟩,by lia,⟨⟨k,f⟩,by lia,eB _⟩⟩,λh=>?_⟩;have h2:=pC ((Bool.or_eq_false_iff.mp h).2);exact⟨⟨k,f⟩,h2.1,c8 h2.2 (by decide)⟩
noncomputable abbrev Lg:=List Int×Str
noncomputable def lgD(r:Lg):D:= .tup [Su r.1, .str r.2]
inductive Wr|th(d:D)|pl|st|gr
theorem xN{inb:Str->Bool}{d:D}(h:Wf d):bI inb d= .aW\/∃r:Str,bI inb d= .str r:=by
 obtain⟨k,h⟩:=h;obtain⟨x,ps,rfl⟩:=cz h;show eP inb x ps= .aW\/∃r:Str,eP inb x ps= .str r;unfold eP EO;repeat' split
 all_goals first|exact .inl rfl|exact .inr ⟨_,rfl⟩
structure afU(H:Hp)(B:Str->D)(d:D)(v:V)(b:Addr)(aH:List (Key×V))(rows:List Lg)(us:List V)(T1 T2:Addr):Prop where
 rd:Rep H d v
 td:Td d
 rr:bz H (rows.map lgD) us
 hb:H b=some (.dK aH)
 br:Nz H aH B
 bb:BkB (e9 aH) B
 tb:FR H T1 T2
theorem Sk{H:Hp}{d:D}{v:V}{ds:List D}{vs:List V}(r:Rep H d v)(t:bz H ds vs):bz H (d::ds) (v::vs):=rs r t
theorem M0{x:Str}{ps:List D}{i:Nat}{p:D}(h:(az x ps)[i]?=some p):dY (.tup (.str x::ps)) ((i:Nat):Int)=some p:=by unfold dY;rw[if_pos (Int.natCast_nonneg i)];exact h
mutual theorem oS:∀(pl:List Nat)(d:D),∀r∈bO pl d,∃q,r.1=pl++q/\goto d (zJ q)=some r.2
 |pl, .tup (.str x::ps),r,h=>by
  rw[E2]at h;rcases List.mem_cons.mp h with rfl|h;·exact⟨[],by simp,rfl⟩
  ·have key:∀r∈eU pl 0 (az x ps),∃(i:Nat)(p:D)(q:List Nat),(az x ps)[i]?=some p/\r.1=pl++(0+i)::q/\goto p (zJ q)=some r.2:=by
    unfold az;split;·intro r h;rw[eU]at h;cases h
    ·exact xM pl 0 ps
   obtain⟨i,p,q,h1,h2,h3⟩:=key r h;rw[Nat.zero_add]at h2;exact⟨i::q,h2,by rw[<-h3];exact fi (M0 h1)⟩
 |pl, .tup [],r,h=>by simp[bO]at h
 |pl, .tup (.aW::_),r,h=>by simp[bO]at h
 |pl, .tup (.bl _::_),r,h=>by simp[bO]at h
 |pl, .tup (.int _::_),r,h=>by simp[bO]at h
 |pl, .tup (.tup _::_),r,h=>by simp[bO]at h
 |pl, .aW,r,h=>by simp[bO]at h
 |pl, .bl _,r,h=>by simp[bO]at h
 |pl, .int _,r,h=>by simp[bO]at h
 |pl, .str _,r,h=>by simp[bO]at h theorem xM:∀(pl:List Nat)(j:Nat)(ds:List D),∀r∈eU pl j ds,∃(i:Nat)(p:D)(q:List Nat),ds[i]?=some p/\r.1=pl++(j+i)::q/\goto p (zJ q)=some r.2
 |pl,j,[],r,h=>by simp[eU]at h
 |pl,j,d::ds,r,h=>by
  rw[eU]at h;rcases List.mem_append.mp h with h|h;·obtain⟨q,h1,h2⟩:=oS (pl++[j]) d r h;exact⟨0,d,q,rfl,by rw[h1];simp,h2⟩
  ·obtain⟨i,p,q,h1,h2,h3⟩:=xM pl (j+1) ds r h;exact⟨i+1,p,q,by simpa using h1,by rw[h2,show j+1+i=j+(i+1)by lia],h3⟩end
noncomputable def DC(inb:Str->Bool)(d:D):List Rp:=(bO [] d).filter λr=>decide (bI inb r.2≠ .aW)
theorem QU{inb:Str->Bool}{d:D}(wf:Wf d){r:Rp}(h:r∈DC inb d):∃y:Str,bI inb r.2= .str y/\goto d (zJ r.1)=some r.2:=by
 unfold DC at h;rw[List.mem_filter]at h;obtain⟨q,e1,e2⟩:=oS [] d r h.1;rw[List.nil_append]at e1;rw[<-e1]at e2;rcases xN (inb:=inb) (uG _ _ _ wf e2).1 with z|⟨y,z⟩;·exact absurd z (of_decide_eq_true h.2)
 ·exact⟨y,z,e2⟩
theorem EV{b c:Type}(g:b->Option c):∀l:List b,(List.range l.length).filterMap (λi=>(l[i]?).bind g)=l.filterMap g
 |[]=>rfl
 |a::l=>by
  rw[cF,List.range_succ_eq_map,CC,CC,List.filterMap_map];have e:((λi=>((a::l)[i]?).bind g)∘Nat.succ)=λi=>(l[i]?).bind g:=by funext i;simp
  rw[e,EV g l];rfl
theorem pz{b d:Type}(c:b->Bool)(f:b->d):∀l:List b,l.filterMap (λa=>if c a=true then some (f a)else none)=(l.filter c).map f|[]=>rfl|a::l=>by rw[CC,List.filter_cons];cases h:c a with|true=>simp[pz c f l]|false=>simp[pz c f l]
theorem FR.sx{H H':Hp}{p T1 T2:Addr}{xs:List V}(h:FR H T1 T2)(s:bx p H H')(hp:H p=some (.lst xs)):FR H' T1 T2:=⟨s _ _ (λz=>by have :=h.t1;unfold jI at this;rw[z,hp]at this;cases this) h.t1,s _ _ (λz=>by have :=h.t2;unfold jI at this;rw[z,hp]at this;cases this) h.t2⟩
theorem Nz.sx{H H':Hp}{p:Addr}{aH:List (Key×V)}{B:Str->D}(h:Nz H aH B)(s:bx p H H')(hp:∀vs,H p≠some (.tup vs)):Nz H' aH B:=λy d=>let⟨q,e,f,a,b,c⟩:=h y d;⟨q,e,f,a,s _ _ (λz=>hp _ (z▸b)) b,c.gU s hp⟩
structure Bs(H:Hp)(B:Str->D)(b:Addr)(aH:List (Key×V))(T1 T2:Addr):Prop where
 hb:H b=some (.dK aH)
 br:Nz H aH B
 bb:BkB (e9 aH) B
 tb:FR H T1 T2
theorem Bs.mono{H H':Hp}{B:Str->D}{b:Addr}{aH:List (Key×V)}{T1 T2:Addr}(h:Bs H B b aH T1 T2)(s:aM H H'):Bs H' B b aH T1 T2:=⟨s _ _ h.hb,h.br.mono s,h.bb,h.tb.mono s⟩
theorem Bs.sx{H H':Hp}{B:Str->D}{b p:Addr}{aH:List (Key×V)}{T1 T2:Addr}{xs:List V}(h:Bs H B b aH T1 T2)(s:bx p H H')(hp:H p=some (.lst xs)):Bs H' B b aH T1 T2:=⟨s _ _ (λz=>by have :=h.hb;rw[z,hp]at this;cases this) h.hb,h.br.sx s (cf hp),h.bb,h.tb.sx s hp⟩
noncomputable def Nu(inb:Str->Bool)(r:Rp):Option qU:=(iF inb r.2).map λy=>(r.1,y)
mutual theorem xn(inb:Str->Bool):∀(pl:List Nat)(d:D),(bO pl d).findSome? (Nu inb)=(dy inb d).map λr=>(pl++r.1,r.2)
 |pl, .tup (.str x::ps)=>by
  rw[bO,dy,List.findSome?_cons];cases h:iF inb (.tup (.str x::ps))with
   |some y=>
    have e:Nu inb (pl, .tup (.str x::ps))=some (pl,y):=by unfold Nu;rw[h];rfl
    rw[e];simp
   |none=>
    have e:Nu inb (pl, .tup (.str x::ps))=none:=by unfold Nu;rw[h];rfl
    rw[e];show List.findSome? _ (if cZ x=true then[]else eU pl 0 ps)=Option.map _ (if cZ x=true then none else iI inb 0 ps);split;·rfl
    ·exact Aq inb pl 0 ps
 |pl, .tup []=>by simp[bO,dy]
 |pl, .tup (.aW::_)=>by simp[bO,dy]
 |pl, .tup (.bl _::_)=>by simp[bO,dy]
 |pl, .tup (.int _::_)=>by simp[bO,dy]
 |pl, .tup (.tup _::_)=>by simp[bO,dy]
 |pl, .aW=>by simp[bO,dy]
 |pl, .bl _=>by simp[bO,dy]
 |pl, .int _=>by simp[bO,dy]
 |pl, .str _=>by simp[bO,dy]theorem Aq(inb:Str->Bool):∀(pl:List Nat)(j:Nat)(ds:List D),(eU pl j ds).findSome? (Nu inb)=(iI inb j ds).map λr=>(pl++r.1,r.2)|pl,j,[]=>by rw[eU,iI];rfl|pl,j,d::ds=>by rw[eU,iI,List.findSome?_append,xn inb (pl++[j]) d];cases dy inb d with|some r=>simp|none=>simpa using Aq inb pl (j+1) ds end
theorem OO{inb:Str->Bool}{r:Rp}(h:decide (bI inb r.2≠ .aW)=true):∃y:Str,bI inb r.2= .str y/\Nu inb r=some (r.1,y):=by
 rcases ij inb r.2 with⟨e,_⟩|⟨y,e1,e2,_⟩;·exact absurd e (of_decide_eq_true h)
 ·exact⟨y,e1,by unfold Nu;rw[e2];rfl⟩
theorem Ej{inb:Str->Bool}{r:Rp}(h:decide (bI inb r.2≠ .aW)=false):Nu inb r=none:=by
 rcases ij inb r.2 with⟨_,e⟩|⟨y,e1,_⟩;·unfold Nu;rw[e];rfl
 ·exact absurd e1 (by rw[Classical.not_not.mp (of_decide_eq_false h)];simp)
theorem E5{inb:Str->Bool}:∀{l:List Rp},(l.filter λr=>decide (bI inb r.2≠ .aW))=[]->l.findSome? (Nu inb)=none|[],_=>rfl|a::l,h=>by cases c:decide (bI inb a.2≠ .aW)with|true=>rw[List.filter_cons,if_pos c]at h;cases h|false=>rw[List.filter_cons,if_neg (by rw[c];decide)]at h;rw[List.findSome?_cons,Ej c];exact E5 h
theorem AB{inb:Str->Bool}:∀{l:List Rp}{r:Rp}{rest:List Rp},(l.filter λr=>decide (bI inb r.2≠ .aW))=r::rest->∃y:Str,bI inb r.2= .str y/\l.findSome? (Nu inb)=some (r.1,y)|[],_,_,h=>by cases h|a::l,r,rest,h=>by cases c:decide (bI inb a.2≠ .aW)with|true=>rw[List.filter_cons,if_pos c]at h;cases h;obtain⟨y,e1,e2⟩:=OO c;exact⟨y,e1,by rw[List.findSome?_cons,e2]⟩|false=>rw[List.filter_cons,if_neg (by rw[c];decide)]at h;obtain⟨y,e1,e2⟩:=AB h;exact⟨y,e1,by rw[List.findSome?_cons,Ej c];exact e2⟩
theorem Jz{inb:Str->Bool}{d:D}(h:DC inb d=[]):dy inb d=none:=by have e:=xn inb [] d;rw[E5 h]at e;cases f:dy inb d with|none=>rfl|some r=>rw[f]at e;cases e
theorem EW{inb:Str->Bool}{d:D}{r:Rp}{rest:List Rp}(h:DC inb d=r::rest):∃y:Str,bI inb r.2= .str y/\dy inb d=some (r.1,y):=by obtain⟨y,e1,e2⟩:=AB h;have e:=xn inb [] d;rw[e2]at e;refine⟨y,e1,?_⟩;cases f:dy inb d with|none=>rw[f]at e;cases e|some z=>rw[f]at e;have e:some (r.1,y)=some ([]++z.1,z.2):=e;rw[List.nil_append]at e;exact e.symm
def Rx(K:PySem.W.Frag):Sp:=λvs H Q _=>∃(a p c:Addr)(ns:List Int)(i:Int)(k:Bool)(d:D)(v:V),vs=[.ref a, .ref p,v]/\Sg K a p c ns H i/\i<2^50/\Rep H d v/\bu aw k d=true/\∀(d':D)(b:V)(H':Hp)(i':Int),Ou K a p c ns H i k (depth d+1) (aC d+4) 1 d' b H' i'->Q b H'
theorem jX:aT ["_law_script","_law_tape","_law_thing_here","_law_way"] ["_law_script","_law_tape","_law_thing_here"] (ar fE):=⟨rfl,rfl,rfl,by decide+kernel,rfl,by decide+kernel,by decide+kernel⟩
theorem zE(D:Df K mg "_law_wrapped" fE ["_law_script","_law_tape","_law_thing_here"])(M:Mg mg t)(J:bp P w K mg bE "_law_draw" (1) C4 (eJ K)):bp P w K mg bE "_law_wrapped" (2) ["_law_script","_law_tape","_law_thing_here"] (Rx K):=by
 refine D.ok jX (λvs H Q E h=>?_) (λbase f cS A outer s H vs Q E Y h=>?_);·obtain⟨a,p,c,ns,i,k,d,v,rfl,_⟩:=h;rfl
 obtain⟨a,p,c,ns,i,k,d,v,rfl,g,hi,r,wf,q⟩:=h;have i0:=g.T.i0;obtain⟨x,ps,rfl⟩:=cz wf;refine⟨_,(ai (aF (i:=3) jX.nd rfl (bY rfl) (aJ J Y.m rfl aK (ae (pv 0) (ae (pv 1) (ae ah ag))))) (ai (ba (aI iM (aP aR (pv 2) ah (λ_ _=>rfl)) (av (ae ao (ae ao (ae ao (ae ao (ae ao ag)))))) rfl) (aj (ay (aP bQ (cq (ae (av (ae ao (ae (av (ae ao ag)) (ae (pv 2) ag)))) (ae (av (ae ao (ae (pv 2) (ae (av (ae ao ag)) ag)))) (ae (av (ae ao (ae (pv 2) (ae (av (ae ao ag)) ag)))) ag)))) (aS gW (pv 3) ah) (λ_ _=>rfl)))) aO) (ai (ba (aI jK (pv 3) ah (aQ _)) (aj (ay (aP bQ (cq (ae (av (ae ao (ae (pv 2) ag))) (ae (av (ae ao (ae (pv 2) ag))) ag))) (pv 3) (λ_ _=>rfl)))) aO) (ai (ba (aI jK (pv 3) ah (aQ _)) (aj (ay (aP bQ (cq (ae (av (ae ao (ae (pv 2) (ae (av (ae ao ag)) ag)))) (ae (av (ae ao (ae (av (ae ao ag)) (ae (pv 2) ag)))) ag))) (aS bG (pv 3) ah) (λ_ _=>rfl)))) aO) (ai (ba (aI jK (pv 3) ah (aQ _)) (aj (ay (aP bQ (cq (ae (av (ae ao (ae (av (ae ao ag)) (ae (av (ae ao ag)) (ae (pv 2) ag))))) (ae (av (ae ao (ae (av (ae ao ag)) (ae (pv 2) ag)))) ag))) (aS bG (pv 3) ah) (λ_ _=>rfl)))) aO) (aj (ay (aP bQ (cq (ae (av (ae ao (ae (av (ae ao ag)) (ae (pv 2) ag)))) (ae (av (ae ao (ae (av (ae ao ag)) (ae (pv 2) (ae (av (ae ao ag)) (ae (av (ae ao ag)) ag)))))) ag))) (aS bG (pv 3) ah) (λ_ _=>rfl))))))))),?_⟩;try dsimp only[gu,cH]
 refine MU ?_;intro _ _ _ _ _ _;refine⟨_,rfl,_,rfl,a,p,ns,i,8,rfl,g.T,(by lia),(by decide),λb L w0 w1 y h1=>?_⟩;have U:=g.next y h1 (by lia);have u:=g.rep y r;obtain⟨O,Mr,rfl,ha,v0,us,rfl,⟨rfl,hx⟩,rp⟩:=id u;have T:lP (V.str x::us) 0=some (.str x):=aE (j:=0) rfl;refine⟨_,rfl,O,_,_,_,rfl,rfl,bS.of ha,T,?_⟩;obtain⟨_,_,B,_⟩:=bM wf;refine⟨(cN rfl),λC X=>⟨C,(["nat","none","all","some","same"]:List Str).map V.str,rfl, .inr (bS.of ak),rfl,rfl,_,rfl,?_⟩⟩;have s1:=aq X (.tup [V.str "nat", .str "none", .str "all", .str "some", .str "same"]);show if hZ x=true then _ else _;rw[B];have F:=u.mono s1;have z:=U.mono s1;have I:=y.trans s1.x;generalize upd L C (.tup [V.str "nat", .str "none", .str "all", .str "some", .str "same"])=N at s1 F z I⊢;have S:1<=depth (.tup (.str x::ps)):=by simp only[depth,aD];lia
 generalize KM.D.tup (.str x::ps)=d at wf q F S;clear B u rp r;have fin:∀(d':KM.D),bu aw k d'=true->depth d'<=depth d+1->aC d'<=aC d+4->∀(o:V)(H':Hp),aM N H'->Rep H' d' o->Q o H':=λd' hw hd W o H' G Z=>q d' o H' (i+1) ⟨Z,hw,hd,W,I.trans G.x,z.mono G,by lia,by lia⟩;have l:bu aw true (.tup [.str "nat"])=true:=jV;have n:bu aw false (.tup [.str "zero"])=true:=fD;cases k with
  |true=>
   refine qR ?_;have cs:b%3=((0:Nat):Int)\/b%3=((1:Nat):Int)\/b%3=((2:Nat):Int):=by lia
   rcases cs with e|e|e
   ·refine eT [.tup [.str "all", .tup [.str "nat"],d], .tup [.str "some",d, .tup [.str "nat"]], .tup [.str "all",d, .tup [.str "nat"]]] 0 (.tup [.str "all", .tup [.str "nat"],d]) ?_ (λH R h=>⟨_,rfl,_,_,rfl,rfl,(by show(0:Int)<3;decide),by show R (V.int (b%3)) H;rw[e];exact h⟩) rfl (by simp only[cF,e_];decide) (fin _ (Hd l wf) ?_ ?_);·repeat' first|exact eE|exact dD|apply bW|apply eK|exact eW rfl (by assumption)|(simp only[cF,e_];decide)
    ·apply KM.d0;with_reducible repeat' first|apply KM.md|apply KM.ny|apply KM.q0|apply KM.q4|apply KM.q3|apply KM.q2|apply KM.q1|lia
    ·simp only[aC,aL];lia
   ·refine eT [.tup [.str "all", .tup [.str "nat"],d], .tup [.str "some",d, .tup [.str "nat"]], .tup [.str "all",d, .tup [.str "nat"]]] 1 (.tup [.str "some",d, .tup [.str "nat"]]) ?_ (λH R h=>⟨_,rfl,_,_,rfl,rfl,(by show(0:Int)<3;decide),by show R (V.int (b%3)) H;rw[e];exact h⟩) rfl (by simp only[cF,e_];decide) (fin _ (IB wf l) ?_ ?_);·repeat' first|exact eE|exact dD|apply bW|apply eK|exact eW rfl (by assumption)|(simp only[cF,e_];decide)
    ·apply KM.d0;with_reducible repeat' first|apply KM.md|apply KM.ny|apply KM.q0|apply KM.q4|apply KM.q3|apply KM.q2|apply KM.q1|lia
    ·simp only[aC,aL];lia
   ·refine eT [.tup [.str "all", .tup [.str "nat"],d], .tup [.str "some",d, .tup [.str "nat"]], .tup [.str "all",d, .tup [.str "nat"]]] 2 (.tup [.str "all",d, .tup [.str "nat"]]) ?_ (λH R h=>⟨_,rfl,_,_,rfl,rfl,(by show(0:Int)<3;decide),by show R (V.int (b%3)) H;rw[e];exact h⟩) rfl (by simp only[cF,e_];decide) (fin _ (Hd wf l) ?_ ?_);·repeat' first|exact eE|exact dD|apply bW|apply eK|exact eW rfl (by assumption)|(simp only[cF,e_];decide)
    ·apply KM.d0;with_reducible repeat' first|apply KM.md|apply KM.ny|apply KM.q0|apply KM.q4|apply KM.q3|apply KM.q2|apply KM.q1|lia
    ·simp only[aC,aL];lia
  |false=>
   refine jP ?_;refine⟨_,rfl,_,_,rfl,rfl,_,rfl,aY (λc1=>?_) (λc1=>?_)⟩
   ·have c1:b<2:=of_decide_eq_true c1;have cs:b=((0:Nat):Int)\/b=((1:Nat):Int):=by lia
    rcases cs with e|e
    ·refine eT [.tup [.str "next",d], .tup [.str "second",d]] 0 (.tup [.str "next",d]) ?_ (λH R h=>⟨_,rfl,e▸h⟩) rfl (by simp only[cF,e_];decide) (fin _ (kH wf) ?_ ?_);·repeat' first|exact eE|exact dD|apply bW|apply eK|exact eW rfl (by assumption)|(simp only[cF,e_];decide)
     ·apply KM.d0;with_reducible repeat' first|apply KM.md|apply KM.ny|apply KM.q0|apply KM.q4|apply KM.q3|apply KM.q2|apply KM.q1|lia
     ·simp only[aC,aL];lia
    ·refine eT [.tup [.str "next",d], .tup [.str "second",d]] 1 (.tup [.str "second",d]) ?_ (λH R h=>⟨_,rfl,e▸h⟩) rfl (by simp only[cF,e_];decide) (fin _ (pE wf) ?_ ?_);·repeat' first|exact eE|exact dD|apply bW|apply eK|exact eW rfl (by assumption)|(simp only[cF,e_];decide)
     ·apply KM.d0;with_reducible repeat' first|apply KM.md|apply KM.ny|apply KM.q0|apply KM.q4|apply KM.q3|apply KM.q2|apply KM.q1|lia
     ·simp only[aC,aL];lia
   have c1:¬b<2:=of_decide_eq_false (Bool.eq_false_iff.mpr c1);refine⟨_,rfl,_,_,rfl,rfl,_,rfl,aY (λc2=>?_) (λc2=>?_)⟩
   ·have c2:b<4:=of_decide_eq_true c2;have cs:b-2=((0:Nat):Int)\/b-2=((1:Nat):Int):=by lia
    rcases cs with e|e
    ·refine eT [.tup [.str "app",d, .tup [.str "zero"]], .tup [.str "app", .tup [.str "zero"],d]] 0 (.tup [.str "app",d, .tup [.str "zero"]]) ?_ (λH R h=>⟨_,rfl,_,_,rfl,rfl,by show R (V.int (b-2)) H;rw[e];exact h⟩) rfl (by simp only[cF,e_];decide) (fin _ (oO wf n) ?_ ?_);·repeat' first|exact eE|exact dD|apply bW|apply eK|exact eW rfl (by assumption)|(simp only[cF,e_];decide)
     ·apply KM.d0;with_reducible repeat' first|apply KM.md|apply KM.ny|apply KM.q0|apply KM.q4|apply KM.q3|apply KM.q2|apply KM.q1|lia
     ·simp only[aC,aL];lia
    ·refine eT [.tup [.str "app",d, .tup [.str "zero"]], .tup [.str "app", .tup [.str "zero"],d]] 1 (.tup [.str "app", .tup [.str "zero"],d]) ?_ (λH R h=>⟨_,rfl,_,_,rfl,rfl,by show R (V.int (b-2)) H;rw[e];exact h⟩) rfl (by simp only[cF,e_];decide) (fin _ (oO n wf) ?_ ?_);·repeat' first|exact eE|exact dD|apply bW|apply eK|exact eW rfl (by assumption)|(simp only[cF,e_];decide)
     ·apply KM.d0;with_reducible repeat' first|apply KM.md|apply KM.ny|apply KM.q0|apply KM.q4|apply KM.q3|apply KM.q2|apply KM.q1|lia
     ·simp only[aC,aL];lia
   have c2:¬b<4:=of_decide_eq_false (Bool.eq_false_iff.mpr c2);refine⟨_,rfl,_,_,rfl,rfl,_,rfl,aY (λm=>?_) (λm=>?_)⟩
   ·have m:b<6:=of_decide_eq_true m;have cs:b-4=((0:Nat):Int)\/b-4=((1:Nat):Int):=by lia
    rcases cs with e|e
    ·refine eT [.tup [.str "pair", .tup [.str "nat"], .tup [.str "zero"],d], .tup [.str "fun", .tup [.str "nat"],d]] 0 (.tup [.str "pair", .tup [.str "nat"], .tup [.str "zero"],d]) ?_ (λH R h=>⟨_,rfl,_,_,rfl,rfl,by show R (V.int (b-4)) H;rw[e];exact h⟩) rfl (by simp only[cF,e_];decide) (fin _ (Bl l n wf) ?_ ?_);·repeat' first|exact eE|exact dD|apply bW|apply eK|exact eW rfl (by assumption)|(simp only[cF,e_];decide)
     ·apply KM.d0;with_reducible repeat' first|apply KM.md|apply KM.ny|apply KM.q0|apply KM.q4|apply KM.q3|apply KM.q2|apply KM.q1|lia
     ·simp only[aC,aL];lia
    ·refine eT [.tup [.str "pair", .tup [.str "nat"], .tup [.str "zero"],d], .tup [.str "fun", .tup [.str "nat"],d]] 1 (.tup [.str "fun", .tup [.str "nat"],d]) ?_ (λH R h=>⟨_,rfl,_,_,rfl,rfl,by show R (V.int (b-4)) H;rw[e];exact h⟩) rfl (by simp only[cF,e_];decide) (fin _ (CS l wf) ?_ ?_);·repeat' first|exact eE|exact dD|apply bW|apply eK|exact eW rfl (by assumption)|(simp only[cF,e_];decide)
     ·apply KM.d0;with_reducible repeat' first|apply KM.md|apply KM.ny|apply KM.q0|apply KM.q4|apply KM.q3|apply KM.q2|apply KM.q1|lia
     ·simp only[aC,aL];lia
   have m:¬b<6:=of_decide_eq_false (Bool.eq_false_iff.mpr m);simp only[WB];have cs:b-6=((0:Nat):Int)\/b-6=((1:Nat):Int):=by lia
   rcases cs with e|e
   ·refine eT [.tup [.str "like", .tup [.str "nat"],d], .tup [.str "rec", .tup [.str "nat"],d, .tup [.str "zero"], .tup [.str "zero"]]] 0 (.tup [.str "like", .tup [.str "nat"],d]) ?_ (λH R h=>⟨_,rfl,_,_,rfl,rfl,by show R (V.int (b-6)) H;rw[e];exact h⟩) rfl (by simp only[cF,e_];decide) (fin _ (Iy l wf) ?_ ?_);·repeat' first|exact eE|exact dD|apply bW|apply eK|exact eW rfl (by assumption)|(simp only[cF,e_];decide)
    ·apply KM.d0;with_reducible repeat' first|apply KM.md|apply KM.ny|apply KM.q0|apply KM.q4|apply KM.q3|apply KM.q2|apply KM.q1|lia
    ·simp only[aC,aL];lia
   ·refine eT [.tup [.str "like", .tup [.str "nat"],d], .tup [.str "rec", .tup [.str "nat"],d, .tup [.str "zero"], .tup [.str "zero"]]] 1 (.tup [.str "rec", .tup [.str "nat"],d, .tup [.str "zero"], .tup [.str "zero"]]) ?_ (λH R h=>⟨_,rfl,_,_,rfl,rfl,by show R (V.int (b-6)) H;rw[e];exact h⟩) rfl (by simp only[cF,e_];decide) (fin _ (xm l wf n n) ?_ ?_);·repeat' first|exact eE|exact dD|apply bW|apply eK|exact eW rfl (by assumption)|(simp only[cF,e_];decide)
    ·apply KM.d0;with_reducible repeat' first|apply KM.md|apply KM.ny|apply KM.q0|apply KM.q4|apply KM.q3|apply KM.q2|apply KM.q1|lia
    ·simp only[aC,aL];lia
def LH(K:PySem.W.Frag):Sp:=λvs H Q _=>∃(a p c:Addr)(ns:List Int)(i:Int)(k:Bool)(d:D)(v:V),vs=[.ref a, .ref p,v]/\Sg K a p c ns H i/\i<2^48/\Rep H d v/\bu aw k d=true/\depth d<=16/\aC d<=300000/\∀(e:Bool)(d':D)(b:V)(H':Hp)(i':Int),Ou K a p c ns H i e 40 300000 100 d' b H' i'->Q b H'
theorem fZ:aT ["_law_script","_law_tape","_law_thing_here","_law_many","_law_k"] ["_law_script","_law_tape","_law_thing_here"] (ar ie):=⟨rfl,rfl,rfl,by decide+kernel,rfl,by decide+kernel,by decide+kernel⟩
theorem DB(D:Df K mg "_law_under" ie ["_law_script","_law_tape","_law_thing_here"])(M:Mg mg t)(L:bp P w K mg bE "_law_draw" (1) C4 (eJ K))(U:bp P w K mg bE "_law_wrapped" (2) ["_law_script","_law_tape","_law_thing_here"] (Rx K))(T:bp P w K mg bE "_law_measured" (172) ["_law_thing_here"] (oI 41))(S:bp P w K mg bE "_law_great" (173) ["_law_thing_here"] (Ck 41)):bp P w K mg bE "_law_under" (174) ["_law_script","_law_tape","_law_thing_here"] (LH K):=by
 refine D.ok fZ (λvs H Q E h=>?_) (λbase f cS A outer s H vs Q E e h=>?_);·obtain⟨a,p,c,ns,i,k,d,v,rfl,_⟩:=h;rfl
 obtain⟨a,p,c,ns,i,k,d,v,rfl,g,hi,r,wf,hdp,hkn,q⟩:=h;have i0:=g.T.i0;refine⟨_,(ai (ba (aI ng (aJ L e.m rfl aK (ae (pv 0) (ae (pv 1) (ae ah ag)))) ah (aQ _)) (aj (ay (pv 2))) aO) (ai (aF (i:=3) fZ.nd rfl (bY rfl) (aJ L e.m rfl aK (ae (pv 0) (ae (pv 1) (ae ah ag))))) (ai (fz PassesOwn.never rfl (dR rfl M.f9 (ae (aS bG (pv 3) (aP aR (aJ T e.m rfl aK (ae (pv 2) ag)) ah (λ_ _=>rfl))) ag)) (bL (i:=4) fZ.nd rfl (bY rfl)) (aj (aF (i:=2) fZ.nd rfl (bY rfl) (aJ U e.m rfl aK (ae (pv 0) (ae (pv 1) (ae (pv 2) ag))))))) (ai (ba (gL (aJ S e.m rfl aK (ae (pv 2) ag))) (aj (ay (av (ae ao ag)))) aO) (aj (ay (pv 2))))))),?_⟩;try dsimp only[gu,cH]
 refine S7 ?_;intro _ _ _ _ _;refine⟨_,rfl,_,rfl,a,p,ns,i,5,rfl,g.T,(by lia),(by decide),λz1 X _ _ B h1=>?_⟩;have m:=g.next B h1 (by lia);have O:=g.rep B r;refine⟨_,_,rfl,rfl,_,rfl,aY (λ_=>?_) (λ_=>?_)⟩;·exact⟨_,rfl,q k d v X (i+1) ⟨O,wf,by lia,hkn,B,m,by lia,by lia⟩⟩
 refine⟨_,rfl,_,rfl,a,p,ns,i+1,40,rfl,m.T,(by lia),(by decide),λmany H2 m0 m1 I h2=>?_⟩;have g2:=m.next I h2 (by lia);have R:=m.rep I O;have d1:1<=depth d:=by obtain⟨x,ps,rfl⟩:=cz wf;simp only[depth,aD];lia
 refine⟨_,rfl,_,rfl,d,v,rfl,R,⟨⟨k,wf⟩,by lia,by lia⟩,λq3 c3 H3 G _ _ h3=>?_⟩;have g3:=g2.mono G;have r3:=R.mono G;have x3:=B.trans (I.trans G.x);refine⟨q3,_,_,_,rfl,rfl,bS.of h3,aE (j:=1) rfl,_,_,rfl,rfl,_,rfl,(by show-(2^62)<=many-((depth d:Nat):Int);lia),(by show many-((depth d:Nat):Int)<2^62;lia),?_⟩;show∃W:Nat->Nat->L2.St->Hp->Prop,_;let Z:Nat->L2.St->Hp->Prop:=(λj J H'=>∃(d':KM.D)(b:V)(i':Int)(F:Option V),J=[some (.ref a),some (.ref p),some b,some (.int many),F]/\Rep H' d' b/\bu aw k d'=true/\depth d'<=depth d+j/\aC d'<=aC d+4*j/\bx p H H'/\Sg K a p c ns H' i'/\i+2<=i'/\i'<=i+2+j);refine gy (many-((depth d:Nat):Int)).toNat Z ?_ ?_ ?_;·exact⟨d,v,i+1+1,none,rfl,r3,wf,by lia,by lia,x3,g3,by lia,by lia⟩
 ·rintro j J Y hj⟨d',b,i',F,rfl,u,y,dp4,kn4,C,n,lo4,hi4⟩;refine⟨hj,?_⟩;rintro x' H4'⟨rfl,rfl⟩;refine⟨_,rfl,_,rfl,_,rfl,a,p,c,ns,i',k,d',b,rfl,n,(by lia),u,y,λd5 v5 N i5 o=>?_⟩;have a1:=o.dp;have a2:=o.kn;have a3:=o.lo;have a4:=o.hi;exact⟨d5,v5,i5,_,rfl,o.r,o.wf,by lia,by lia,C.trans o.sx,o.g,by lia,by lia⟩
 ·rintro J Y⟨d',b,i',F,rfl,u,y,dp4,kn4,C,n,lo4,hi4⟩;refine⟨bK _,?_⟩;refine⟨_,rfl,d',b,rfl,u,⟨⟨k,y⟩,by lia,by lia⟩,λN l=>⟨_,rfl,?_⟩⟩;refine aY (λ_=>?_) (λcv=>?_);·refine⟨(cN rfl),λq1 e1=>?_⟩;exact q false _ _ _ _ (made (C.trans l.x) (n.mono l) e1 (rs ir r0) fD (by apply KM.d0;with_reducible repeat' first|apply KM.md|apply KM.ny|apply KM.q0|apply KM.q4|apply KM.q3|apply KM.q2|apply KM.q1|lia) (by simp only[aC,aL];lia) (by lia) (by lia))
  ·have cv:dw d'=false:=by first|exact Bool.eq_false_iff.mpr cv|exact(Bool.or_eq_false_iff.mp (show(dw d'||eI d')=false from Bool.eq_false_iff.mpr cv)).1
   have hv:¬(aC d'>600\/depth d'>40):=by intro z;unfold dw at cv;simp at cv;lia
   exact⟨_,rfl,q k d' b N i' ⟨u.mono l,y,by lia,by lia,C.trans l.x,n.mono l,by lia,by lia⟩⟩
end K23
end
section
namespace L3
open PySem PySem.Spec PyProof.Rows L2
theorem kh{X:Cx}{K:PySem.W.Frag}{a C:Addr}{oe:Obj}(hp:X.base.get? a=some oe)(hc:oe.cls= .ref C)(d:X.K=K:=by rfl):iP X (.builtin "isinstance") (λxs H Q=>∃y c b,xs=[.ref a,y]/\qW K C/\(∀u,RelV y u->u=c)/\PySem.W.kitOne K (.ref C) c=some b/\Q (.bl b) H):=by subst d;intro pins s σ H xs us Q I r h;obtain⟨y,c,b,rfl,G,inj,e,q⟩:=h;obtain⟨u,v,rfl,f,g⟩:=r.two;cases f;obtain rfl:=inj v g;exact PySem.W.kia_one (pK G) I.kI ⟨oe,I.bk a oe hp,hc⟩ e (λz=>nomatch z) λtk=>⟨.bl b,H,I.tok tk,rfl,q⟩
theorem Ly:∀{cs:List Addr}{us:List Value},Vals (cs.map V.ref) us->us=cs.map Value.ref|[],_, .nil=>rfl|c::cs,_, .cons r t=>by cases r;rw[Ly t];rfl
theorem MR{X:Cx}{K:PySem.W.Frag}{a C:Addr}{oe:Obj}(hp:X.base.get? a=some oe)(hc:oe.cls= .ref C)(c:X.K=K:=by rfl):iP X (.builtin "isinstance") (λxs H Q=>∃(tp:Addr)(cs:List Addr)(b:Bool),xs=[.ref a, .ref tp]/\qW K C/\H tp=some (.tup (cs.map V.ref))/\PySem.W.kitAny K (.ref C) (cs.map Value.ref)=some b/\Q (.bl b) H):=by subst c;intro pins s σ H xs us Q I r h;obtain⟨tp,cs,b,rfl,G,g,e,q⟩:=h;obtain⟨u,v,rfl,j,k⟩:=r.two;cases j;cases k;obtain⟨z,l,i,⟨oc,od,m,Fn⟩,f,d,n,hd⟩:=I.b9 tp _ g;have :=Ly i;subst this;cases d;cases hd;have ht:=f;exact PySem.W.kia_tup (pK G) I.kI ⟨oe,I.bk a oe hp,hc⟩ ht e (λz=>nomatch z) λtk=>⟨.bl b,H,I.tok tk,rfl,q⟩
end L3
end
section
namespace L3
open PySem PySem.Spec PyProof.Rows L2 KM
noncomputable def XC(C a:Addr)(sp:Heap->Sp)(E:XK)(t:TA):TE:=λσ H Q=>t σ H λvs b=>∀(b':Heap)(oe:Obj),oe.cls= .ref C->b'.get? a=some oe->sp b' vs b Q E
theorem X9{X:Cx}{CX:oJ}{x:Str}{k:Nat}{ps:List Str}{sp:Heap->Sp}{E:XK}{e:Expr}{es:List Expr}{t:TA}{p g:Pos}{a C:Addr}{oe:Obj}(w:(a,oe)∈X.pn)(o:oe.cls= .ref C)(F:mL X.prog X.w X.K X.mg CX x k ps sp)(y:da k X.A)(n:Gl X x)(z:Passes CX X E)(ha:PA X (e::es) t)(j:(x==("__debug__":Str))=false:=by decide)(l:starEach (e::es) X.env=(false,eval e X.env)::starEach es X.env:=by rfl)(v:(backTo g (starEach es X.env)).any (·.1)=false:=by rfl)(hc:X.calm=true:=by rfl):PE X (.Call (.Name x p) (e::es) [] g) (XC C a sp E t):=by
 obtain⟨f,fd,F,m,kp,b⟩:=F;intro pins s σ H Q I h;refine zT (jg I n m ?_ j);refine PySem.W.callWith_K (h₀:=X.base) I.ok.mod.Mt kp (bX (ha g pins s σ H _ I h) λus s1⟨vs,d,c,r,q⟩=>⟨c.kI,?_⟩) l v;have q:=q _ oe o ((B_ c).pin (a,oe) w);have hl:us.length=ps.length:=by rw[<-r.length];exact(F (zu s1.heap d (jQ X.stack))).len _ _ _ _ q
 have i:=b s1 us c.kI (by rw[kS];exact hl);rw[kS]at i;refine wpAny_call (codeAny_mono ((F _).run X.A X.stack s1 d ⟨us,[]⟩ us vs Q E y (O9 c hc) i r q) λA s' hq=>?_);cases A with|error e=>exact z pins σ d s1 e s' c hq|ok fl=>cases fl with|ret u=>exact c.after hq|next=>exact False.elim hq|brk=>exact False.elim hq|cont=>exact False.elim hq
end L3
end
section
namespace K23
open PySem L2 L3 KM PyProof.Rows
seal L2.PE L2.PS L2.iz L2.PT L2.PW L2.PA L2.PG L2.AR L2.PI L2.PC L2.PO L2.An L2.PK L3.AV L3.PH L3.PB
variable{P:Program}{w:World}{K:PySem.W.Frag}{mg:Str->Option Value}{base:Heap}{t:wY}
noncomputable def G3(t:wY):List Addr:=[t.xy,t.QJ,t.NH,t.JH,t.Li,t.R5,t.Rh,t.Om,t.Ar,t.zU]
structure Ek(K:PySem.W.Frag)(t:wY):Prop where
 e0:nM K t.cx
 e1:nM K t.cb
 e2:nM K t.jG
 e3:nM K t.fJ
 e4:nM K t.Aw
 x0:PySem.W.subIn K (.ref t.cx) (.ref t.cx)=some true
 c0:qW K t.cx
 s0:PySem.W.subIn K (.ref t.cx) (.ref t.fJ)=some true
 v0:PySem.W.kitOne K (.ref t.cx) (.type "ValueError")=some true
 afu:PySem.W.kitOne K (.ref t.cx) (.ref t.cx)=some true
 aeW:PySem.W.kitOne K (.ref t.cx) (.ref t.cb)=some false
 ae1:PySem.W.kitOne K (.ref t.cx) (.ref t.jG)=some false
 aej:PySem.W.kitOne K (.ref t.cx) (.ref t.Aw)=some false
 a0:PySem.W.kitAny K (.ref t.cx) ((G3 t).map Value.ref)=some false
 c1:qW K t.Aw
 s1:PySem.W.subIn K (.ref t.Aw) (.ref t.fJ)=some true
 v1:PySem.W.kitOne K (.ref t.Aw) (.type "ValueError")=some true
 afd:PySem.W.kitOne K (.ref t.Aw) (.ref t.cx)=some false
 afC:PySem.W.kitOne K (.ref t.Aw) (.ref t.cb)=some false
 aeG:PySem.W.kitOne K (.ref t.Aw) (.ref t.jG)=some false
 aet:PySem.W.kitOne K (.ref t.Aw) (.ref t.Aw)=some true
 a1:PySem.W.kitAny K (.ref t.Aw) ((G3 t).map Value.ref)=some false
structure Wdc(K:PySem.W.Frag)(t:wY)(C:Addr)(b0 b1 b2 b3:Bool):Prop where
 c:qW K C
 s:PySem.W.subIn K (.ref C) (.ref t.fJ)=some true
 v:PySem.W.kitOne K (.ref C) (.type "ValueError")=some true
 k0:PySem.W.kitOne K (.ref C) (.ref t.cx)=some b0
 k1:PySem.W.kitOne K (.ref C) (.ref t.cb)=some b1
 k2:PySem.W.kitOne K (.ref C) (.ref t.jG)=some b2
 k3:PySem.W.kitOne K (.ref C) (.ref t.Aw)=some b3
 l:PySem.W.kitAny K (.ref C) ((G3 t).map Value.ref)=some false
theorem Ek.w0(X:Ek K t):Wdc K t t.cx true false false false:=⟨X.c0,X.s0,X.v0,X.afu,X.aeW,X.ae1,X.aej,X.a0⟩
theorem Ek.w1(X:Ek K t):Wdc K t t.Aw false false false true:=⟨X.c1,X.s1,X.v1,X.afd,X.afC,X.aeG,X.aet,X.a1⟩
inductive Pat:Bool->Bool->Bool->Bool->Str->Prop|gr:Pat true false false false "great"|pl:Pat false true false false "place"|st:Pat false false true false "step"|dr:Pat false false false true "dry"
def ac_(K:PySem.W.Frag)(t:wY)(C:Addr)(x:Str):Prop:=∃b0 b1 b2 b3,Wdc K t C b0 b1 b2 b3/\Pat b0 b1 b2 b3 x
def Q0(K:PySem.W.Frag)(t:wY)(base:Heap):Sp:=λvs H Q _=>∃(a C:Addr)(oe:Obj)(x:Str),vs=[.ref a]/\base.get? a=some oe/\oe.cls= .ref C/\ac_ K t C x/\∀H',aM H H'->Q (.str x) H'
theorem jY:aT ["_law_e","_law_found","_law_later"] ["_law_e"] (ar jy):=⟨rfl,rfl,rfl,by decide+kernel,rfl,by decide+kernel,by decide+kernel⟩
theorem Gr(D:Df K mg "_law_word" jy ["_law_e"])(M:Mg mg t):mL P w K mg bE "_law_word" 1 ["_law_e"] (Q0 K t):=by
 refine D.okB jY (λbase vs H Q E h=>?_) (λbase f cS A outer s H vs Q E r h=>?_);·obtain⟨a,C,oe,x,rfl,_⟩:=h;rfl
 obtain⟨a,C,oe,x,rfl,g,j,⟨b0,b1,b2,b3,X,n⟩,q⟩:=h;refine⟨_,(ai (aF (i:=1) jY.nd rfl (bY rfl) (cq (ae (bj (kh (K:=K) g j) rfl M.bZ bP (ae (pv 0) (ae (cL M.g_Great rfl) ag))) (ae (bj (kh (K:=K) g j) rfl M.bZ bP (ae (pv 0) (ae (cL M.g_NoPlace rfl) ag))) (ae (bj (kh (K:=K) g j) rfl M.bZ bP (ae (pv 0) (ae (cL M.g_NoStep rfl) ag))) (ae (bj (kh (K:=K) g j) rfl M.bZ bP (ae (pv 0) (ae (cL M.g_Dry rfl) ag))) ag)))))) (ai (aF (i:=2) jY.nd rfl (bY rfl) (bj (MR (K:=K) g j) rfl M.bZ bP (ae (pv 0) (ae (av (ae (cL M.g_NoVariable rfl) (ae (cL M.g_NoName rfl) (ae (cL M.g_NotAll rfl) (ae (cL M.g_NotSome rfl) (ae (cL M.g_NotSame rfl) (ae (cL M.g_Unlike rfl) (ae (cL M.g_NoText rfl) (ae (cL M.g_NoWord rfl) (ae (cL M.g_TwiceTold rfl) (ae (cL M.g_NotClosed rfl) ag))))))))))) ag)))) (ai (ba (L2.PW.pt (kW (gL (pv 2)) (kW (pq (gL (bj (kh (K:=K) g j) rfl M.bZ bP (ae (pv 0) (ae (z_ M.Ca zR rfl) ag))))) (j1 (aI HU (lx PySem.F.plainAttrs_list PySem.F.slot_list_count PySem.F.type_list_count LL (pv 1) (ae AQ ag)) ah (aQ _)))))) (aj (ay ao)) aO) (aj (ay (aP bQ (cq (ae ao (ae ao (ae ao (ae ao ag))))) (lx PySem.F.plainAttrs_list PySem.F.slot_list_index PySem.F.type_list_index Nn (pv 1) (ae AQ ag)) (λ_ _=>rfl))))))),?_⟩;try dsimp only[gu,o]
 refine A9 ?_;intro _ _ _ _;refine⟨_,rfl, .ref t.cx, .ref t.cx,b0,rfl,X.c,λu h=>h,X.k0,_,rfl, .ref t.cb, .ref t.cb,b1,rfl,X.c,λu h=>h,X.k1,_,rfl, .ref t.jG, .ref t.jG,b2,rfl,X.c,λu h=>h,X.k2,_,rfl, .ref t.Aw, .ref t.Aw,b3,rfl,X.c,λu h=>h,X.k3,(cN rfl),λp hp=>?_⟩;have s1:=aq hp (.lst [V.bl b0,V.bl b1,V.bl b2,V.bl b3]);have h1:(upd H p (.lst [V.bl b0,V.bl b1,V.bl b2,V.bl b3])) p=some (.lst (([b0,b1,b2,b3]:List Bool).map V.bl)):=ak;generalize upd H p (.lst [V.bl b0,V.bl b1,V.bl b2,V.bl b3])=k at s1 h1⊢;refine⟨_,rfl,(cN rfl),λtp m=>⟨tp,G3 t,false,rfl,X.c,ak,X.l,?_⟩⟩;have t2:=aq m (.tup ((G3 t).map V.ref));have h2:=t2 _ _ h1;show(λl=>_) (upd k tp (.tup ((G3 t).map V.ref)));generalize upd k tp (.tup ((G3 t).map V.ref))=l at t2 h2⊢;refine⟨_,rfl,false,rfl,jP ?_⟩;refine⟨_,rfl, .ty "ValueError", .type "ValueError",true,rfl,X.c,λu h=>h,X.v,true,rfl,jP ?_⟩;have fin:∀(i:Nat)(y:Str),([V.str "great", .str "place", .str "step", .str "dry"])[i]?=some (.str y)->y=x->∀b H',aM l H'->H' b=some (.lst [V.str "great", .str "place", .str "step", .str "dry"])->(bH K H' b [V.str "great", .str "place", .str "step", .str "dry"]/\lP [V.str "great", .str "place", .str "step", .str "dry"] ((i:Nat):Int)=some (.str x)/\Q (.str x) H'):=λi y e1 e2 b H' s' h'=>⟨bH.of h',e2▸aE e1,q _ (s1.trans (t2.trans s'))⟩;cases n with|gr=>refine⟨_,rfl, .inl ⟨rfl,_,bH.of h2⟩,p,_,true,rfl,rfl,bH.of h2,rfl,_,rfl,jP ⟨(cN rfl),λb e=>?_⟩⟩;have c:=aq e (.lst [V.str "great", .str "place", .str "step", .str "dry"]);obtain⟨f1,f2,d⟩:=fin 0 _ rfl rfl b _ c ak;exact⟨_,rfl, .inl ⟨rfl,_,bH.of (c _ _ h2)⟩,p,_,true,rfl,rfl,bH.of (c _ _ h2),by decide,by decide,b,_,_,_,rfl,rfl,f1,f2,d⟩|pl=>refine⟨_,rfl, .inl ⟨rfl,_,bH.of h2⟩,p,_,true,rfl,rfl,bH.of h2,rfl,_,rfl,jP ⟨(cN rfl),λb e=>?_⟩⟩;have c:=aq e (.lst [V.str "great", .str "place", .str "step", .str "dry"]);obtain⟨f1,f2,d⟩:=fin 1 _ rfl rfl b _ c ak;exact⟨_,rfl, .inl ⟨rfl,_,bH.of (c _ _ h2)⟩,p,_,true,rfl,rfl,bH.of (c _ _ h2),by decide,by decide,b,_,_,_,rfl,rfl,f1,f2,d⟩|st=>refine⟨_,rfl, .inl ⟨rfl,_,bH.of h2⟩,p,_,true,rfl,rfl,bH.of h2,rfl,_,rfl,jP ⟨(cN rfl),λb e=>?_⟩⟩;have c:=aq e (.lst [V.str "great", .str "place", .str "step", .str "dry"]);obtain⟨f1,f2,d⟩:=fin 2 _ rfl rfl b _ c ak;exact⟨_,rfl, .inl ⟨rfl,_,bH.of (c _ _ h2)⟩,p,_,true,rfl,rfl,bH.of (c _ _ h2),by decide,by decide,b,_,_,_,rfl,rfl,f1,f2,d⟩|dr=>refine⟨_,rfl, .inl ⟨rfl,_,bH.of h2⟩,p,_,true,rfl,rfl,bH.of h2,rfl,_,rfl,jP ⟨(cN rfl),λb e=>?_⟩⟩;have c:=aq e (.lst [V.str "great", .str "place", .str "step", .str "dry"]);obtain⟨f1,f2,d⟩:=fin 3 _ rfl rfl b _ c ak;exact⟨_,rfl, .inl ⟨rfl,_,bH.of (c _ _ h2)⟩,p,_,true,rfl,rfl,bH.of (c _ _ h2),by decide,by decide,b,_,_,_,rfl,rfl,f1,f2,d⟩
end K23
end
section
namespace L3
open PySem PySem.Spec PyProof.Rows L2
noncomputable abbrev aeS(h:Heap)(z TI TO:Addr)(a f1:Value):Prop:=h.get? z=some {cls:= .type "zip",dict:=none,data:= .fields #[a,f1, .bool false, .ref TI, .ref TO],slots:=#[]}
def ZG(h:Heap)(z TI TO:Addr):Prop:=∃b f1,aeS h z TI TO b f1/\(b= .none\/∃a t,b= .int a t)
section
variable{prog:Program}{w:World}{A:Around}{E:Value->Shared->Prop}{s:Shared}
variable{z TI TO i1 i2:Addr}{f1 f2:List Addr}{n1 n2:Nat}{P1 P2:Nat->Value->Prop}{S1 S2:Nat->Heap->Prop}
end
structure afH(a b e z TI TO i1 i2:Addr)(i:Nat)(h:Heap):Prop where
 e:∃old,IsEnum h e z i old
 z:ZG h z TI TO
 TI:IsPair h TI (.ref i1) (.ref i2)
 TO:∃u v,IsPair h TO u v
 i1:h.IsListIter i1 a i
 i2:h.IsListIter i2 b i
end L3
end
section
namespace L3
theorem ZX{k:Nat}{A:PySem.Around}(r:L2.da k A):A.units+84<PySem.cLine:=by have :=r.un;lia
end L3
end
section
namespace K23
open PySem L2 L3 KM PyProof.Rows
seal L2.PE L2.PS L2.iz L2.PT L2.PW L2.PA L2.PG L2.AR L2.PI L2.PC L2.PO L2.An L2.PK L3.AV L3.PH L3.PB
variable{P:Program}{w:World}{K:PySem.W.Frag}{mg:Str->Option Value}{base:Heap}{t:wY}
theorem NL{H:Hp}{a p:Addr}{ns:List Int}(b:bH K H a (ns.map V.int))(hl:ns.length<=63)(hp:H p=none):Tp K a p ns (upd H p (.lst [V.int 0])) 0:=by
 refine⟨?_,hl,ak,Int.le_refl _⟩;rcases b with(h|⟨o,h⟩)|h;·have n:a≠p:=aX h hp;exact .inl ⟨n, .inl (by rw[aZ n];exact h)⟩
 ·have n:a≠p:=aX h hp;exact .inl ⟨n, .inr ⟨o,by rw[aZ n];exact h⟩⟩
 ·exact .inr λH'=> .inr h
mutual theorem QI:∀{k:Bool}{d:D},bu aw k d=true->Sj d=true|k, .tup (.str x::ps),h=>by obtain⟨s,e1,e2,e3,e4,e5,_⟩:=bM h;show(true&&FK ps)=true;rw[R3 e3];rfl|k, .tup [],h=>by simp[bu]at h|k, .tup (.aW::_),h=>by simp[bu]at h|k, .tup (.bl _::_),h=>by simp[bu]at h|k, .tup (.int _::_),h=>by simp[bu]at h|k, .tup (.tup _::_),h=>by simp[bu]at h|k, .aW,h=>by simp[bu]at h|k, .bl _,h=>by simp[bu]at h|k, .int _,h=>by simp[bu]at h|k, .str _,h=>by simp[bu]at h theorem R3:∀{cs:List Nat}{ps:List D},dZ aw cs ps=true->FK ps=true
 |[],[],_=>rfl
 |[],_::_,h=>by simp[dZ]at h
 |_::_,[],h=>by simp[dZ]at h
 |c::cs,p::ps,h=>by
  rw[aN,cY]at h;show(Sj p&&FK ps)=true;rw[R3 h.2,Bool.and_true];have h:=h.1;unfold dg at h;by_cases c1:c=107;·rw[if_pos c1]at h;exact QI h
  ·rw[if_neg c1]at h;by_cases c2:c=116;·rw[if_pos c2]at h;exact QI h
   ·rw[if_neg c2]at h;cases p<;>first|rfl|(simp[iB,aw]at h;done)end
theorem Sg.sxb{a p c b:Addr}{ns:List Int}{H H':Hp}{i:Int}{aH:List (Key×V)}(g:Sg K a p c ns H i)(hb:H b=some (.dK aH))(s:bx b H H'):Sg K a p c ns H' i:=by
 have k:p≠b:=λz=>by have :=g.T.gh;rw[z,hb]at this;cases this
 obtain⟨⟨src,ln,tp,i0⟩,x,y,z,d,f,j,hc⟩:=g;refine⟨⟨?_,ln,s _ _ k tp,i0⟩,x,y,z,d,f,j,s _ _ (λe=>by rw[e,hb]at hc;cases hc) hc⟩;rcases src with⟨n,h|⟨o,h⟩⟩|h;·exact .inl ⟨n, .inl (s _ _ (λe=>by rw[e,hb]at h;cases h) h)⟩
 ·exact .inl ⟨n, .inr ⟨o,s _ _ (λe=>by rw[e,hb]at h;cases h) h⟩⟩
 ·exact .inr h
theorem FR.sxb{H H':Hp}{b T1 T2:Addr}{aH:List (Key×V)}(h:FR H T1 T2)(s:bx b H H')(hb:H b=some (.dK aH)):FR H' T1 T2:=⟨s _ _ (λz=>by have e:H T1=_:=h.t1;rw[z,hb]at e;cases e) h.t1,s _ _ (λz=>by have e:H T2=_:=h.t2;rw[z,hb]at e;cases e) h.t2⟩
end K23
end
section
namespace L3
open PySem PySem.Spec PyProof.Rows L2 KM
noncomputable def ZI:R2:=λx y H Q=>∃xs:List DX,Hl H (.lst xs) x/\Hl H (.lst xs) y/\BB xs=true/\jO xs<=80/\Q (.bl true) H
theorem Uy{X:Cx}(l:X.A.units+84<cLine):lj X (compareOp .Eq) ZI:=by
 intro pins s σ H x y v u Q I i k h;obtain⟨xs,⟨q,vs,rfl,hq,rd⟩,⟨p,us,rfl,hp,a⟩,n,hd,h⟩:=h;cases i;cases k;obtain⟨d,b,pt,_⟩:=I.list (bH.of (K:=X.K) hq);obtain⟨f,c,g,_⟩:=I.list (bH.of (K:=X.K) hp);have m:=b.length;have o:=c.length;have r:=fI.length rd;have t:=fI.length a;refine SeqAt.eq_listAt pt.isList g.isList (e:=λ_=>true) (by simp only[dq];lia) (by lia) (λj h1 h2=>?_) ⟨.bl true,H,I,?_,h⟩;·have :=Ql I xs X.A.in1 vs us d f rd a b c n (by show X.A.units+1+jO xs<cLine;lia) j (by simpa using h1) (by simpa using h2);simpa using this
 ·show Value.bool _=Value.bool true;congr 1;simp
end L3
end
section
namespace K23
open PySem L2 L3 KM PyProof.Rows
seal L2.PE L2.PS L2.iz L2.PT L2.PW L2.PA L2.PG L2.AR L2.PI L2.PC L2.PO L2.An L2.PK L3.AV L3.PH L3.PB
variable{P:Program}{w:World}{K:PySem.W.Frag}{mg:Str->Option Value}{base:Heap}{t:wY}
theorem GA{inb:Str->Bool}{B:Str->D}(c:BkB inb B):∀(f:Nat)(d:D),Td d->∃(res:Out)(rs:List qU),Run inb B res f rs d/\rs.length<=f/\∀d',res= .ok d'->Td d':=λf=>by
 induction f with
  |zero=>intro d td;cases a:dy inb d with|none=>exact⟨.ok d,[], .inl ⟨a,rfl⟩,eB _,λd' e=>by cases e;exact td⟩|some r=>exact⟨.dry,[], .inr ⟨r,a, .inl ⟨rfl,rfl⟩⟩,eB _,λd' e=>by cases e⟩
  |succ f i=>intro d td;cases b:DC inb d with|nil=>exact⟨.ok d,[], .inl ⟨Jz b,rfl⟩,eB _,λd' e=>by cases e;exact td⟩|cons r0 rest=>obtain⟨y,h,a⟩:=EW b;obtain⟨k,j,g⟩:=QU td.wf (show r0∈DC inb d by rw[b];exact d4);obtain⟨ok,nx⟩:=stC c td g h;cases hb:adb B d (zJ r0.1) r0.2 y with|true=>exact⟨.great,[], .inr ⟨(r0.1,y),a, .inr ⟨Nat.succ_pos f,rfl,_,_,ok,hb⟩⟩,eB _,λd' e=>by cases e⟩|false=>obtain⟨res,rs,h1,h2,h3⟩:=i _ (nx hb);exact⟨res,(r0.1,y)::rs,⟨Nat.succ_pos f,_,_,a,ok,hb,h1⟩,Nat.succ_le_succ h2,h3⟩
noncomputable def aaI:Out->Str| .ok _=>"thing"| .great=>"great"| .dry=>"dry"
structure ND(H:Hp)(res:Out)(rs:List qU)(p lg:Addr)(u:V)(us:List V):Prop where
 hp:H p=some (.tup [.str (aaI res),u, .ref lg])
 hl:H lg=some (.lst us)
 rr:∃ds:List qU,bz H (ds.map Mo) us/\ds.length<=1000/\∀d',res= .ok d'->ds=rs/\Rep H d' u
theorem ND.mono{H H':Hp}{res:Out}{rs:List qU}{p lg:Addr}{u:V}{us:List V}(h:ND H res rs p lg u us)(s:aM H H'):ND H' res rs p lg u us:=let⟨ds,a,b,c⟩:=h.rr;⟨s _ _ h.hp,s _ _ h.hl,ds,a.mono s,b,λd' e=>⟨(c d' e).1,(c d' e).2.mono s⟩⟩
theorem ND.sx{H H':Hp}{res:Out}{rs:List qU}{p lg q:Addr}{u:V}{us ws:List V}(h:ND H res rs p lg u us)(s:bx q H H')(hq:H q=some (.lst ws))(n:lg≠q):ND H' res rs p lg u us:=let⟨ds,a,b,c⟩:=h.rr;⟨s _ _ (λz=>by have :=h.hp;rw[z,hq]at this;cases this) h.hp,s _ _ n h.hl,ds,a.gU s (cf hq),b,λd' e=>⟨(c d' e).1,(c d' e).2.gU s (cf hq)⟩⟩
theorem ND.len{H:Hp}{res:Out}{rs:List qU}{p lg:Addr}{u:V}{us:List V}(h:ND H res rs p lg u us):us.length<=1000:=by obtain⟨ds,a,b,c⟩:=h.rr;have :=a.length;rw[dI]at this;lia
def IH(T1 T2:Addr):Sp:=λvs H Q _=>∃(B:Str->D)(d:D)(v:V)(fuel:Nat)(b:Addr)(aH:List (Key×V))(rs:List qU)(res:Out),vs=[v, .int (fuel:Nat), .ref b]/\Rep H d v/\Td d/\Bs H B b aH T1 T2/\Run (e9 aH) B res fuel rs d/\rs.length<=1000/\∀(p lg:Addr)(u:V)(us:List V)(H':Hp),aM H H'->H lg=none->ND H' res rs p lg u us->Q (.ref p) H'
theorem jq:aT ["_law_thing_here","_law_fuel","_law_book_here","_law_log","_law_rows_here"] ["_law_thing_here","_law_fuel","_law_book_here"] (ar iE):=⟨rfl,rfl,rfl,by decide+kernel,rfl,by decide+kernel,by decide+kernel⟩
theorem MD{T1 T2:Addr}(D:Df K mg "_law_due" iE ["_law_thing_here","_law_fuel","_law_book_here"])(M:Mg mg t)(X:Ek K t)(Ho:bp P w K mg bE "_law_rows" (2) ["_law_thing_here","_law_book_here"] Q3)(pH:bp P w K mg (gv P w) "stepped" (128) ["thing","place","book"] (Hf t.cx T1 T2)):bp P w K mg bE "_law_due" (140) ["_law_thing_here","_law_fuel","_law_book_here"] (IH T1 T2):=by
 refine D.ok jq (λvs H Q E h=>?_) (λbase f cS A outer s H vs Q E hr h=>?_);·obtain⟨B,d,v,fuel,b,aH,rs,res,rfl,_⟩:=h;rfl
 obtain⟨B,d,v,fuel,b,aH,rs,res,rfl,rd,td,W,run,Yc,q⟩:=h;have Cz:=X.e0;have hh:=hr.hd (by decide);have hu:=x_ hr;refine⟨_,(ai (aF (i:=3) jq.nd rfl (bY rfl) (cq ag)) (aj (xE PassesOwn.never (gL AQ) (ai (Ji (ix:=4) (N':=["_law_row"]) (own:=1) (fr:=[]) jq.nd rfl rfl rfl (lF (N:=["_law_thing_here","_law_fuel","_law_book_here","_law_log","_law_rows_here"]) (sc:=ar iE) rfl rfl rfl (by decide+kernel)) (kC (aJ Ho hr.m rfl aK (ae (pv 0) (ae (pv 2) ag)))) (iC (by decide)) (λ_ _ _=>(bL (i:=0) (show List.Nodup (["_law_row"]:List Str)by decide+kernel) rfl (Or.inl rfl))) (λ_ _ _=>(IL (aI rD (aP (UD (K:=K)) (pv 0) ah (λ_ _=>rfl)) iu (aQ _)))) (λ_ _ _=>(pv 0))) (ai (ba (aI (Qm hu) (pv 4) (cq ag) (aQ _)) (aj (ay (av (ae ao (ae (pv 0) (ae (pv 3) ag)))))) aO) (ai (ba (aI bR (bj bC rfl M.gQ eG (ae (pv 3) ag)) (pv 1) (aQ _)) (aj (ay (av (ae ao (ae (pv 0) (ae (pv 3) ag)))))) aO) (ai (Qr rfl rfl rfl (PY (i:=0) jq.nd rfl (bY rfl) pH hr.m rfl rfl (ae (pv 0) (ae (aP aR (aP bQ (pv 4) ah (λ_ _=>rfl)) ah (λ_ _=>rfl)) (ae (pv 2) ag)))) (Sy false Cz M.g_Great rfl (λz=>nomatch z) (λa C oe Ha=>(aj (ay (av (ae ao (ae (pv 0) (ae (pv 3) ag))))))) Oi)) (aj (i7 (lx PySem.F.plainAttrs_list PySem.F.slot_list_append PySem.F.type_list_append fj (pv 3) (ae (av (ae (aP aR (aP bQ (pv 4) ah (λ_ _=>rfl)) ah (λ_ _=>rfl)) (ae (aP aR (aP bQ (pv 4) ah (λ_ _=>rfl)) ah (λ_ _=>rfl)) ag))) ag))))))))))),?_⟩;try dsimp only[gu,cH]
 refine pb ?_;intro _ _;refine⟨(cN rfl),λlg Dh=>?_⟩;have t0:=aq Dh (.lst []);have Z:(upd H lg (.lst [])) lg=some (.lst []):=ak;generalize upd H lg (.lst [])=H0 at t0 Z⊢;let Iw:Nat->L2.St->Hp->Prop:=λm bf H'=>∃(n rest:List qU)(k:KM.D)(u:V)(us:List V)(fl:Nat)(rv:Option V),bf=[some u,some (.int (fuel:Nat)),some (.ref b),some (.ref lg),rv]/\m=rest.length/\aM H H'/\Rep H' k u/\Td k/\H' lg=some (.lst us)/\bz H' (n.map Mo) us/\Run (e9 aH) B res fl rest k/\n.length+fl=fuel/\rs=n++rest;refine⟨Iw,⟨_,[],rs,d,v,[],fuel,none,rfl,rfl,t0,rd.mono t0,td,Z,rfl,run,Nat.zero_add _,rfl⟩,?_⟩;clear t0 Z rd td run;rintro m bf U⟨n,rest,k,u,us,fl,rv,rfl,rfl,s1,r1,td1,h1,rl1,T,efl,VF⟩;have lus:=rl1.length;rw[dI]at lus;have afQ:rs.length=n.length+rest.length:=by rw[VF,iJ]
 have W1:=W.mono s1;have tkn:=td1.kn;have tdp:=td1.dp;refine⟨_,rfl,qR ?_⟩;refine⟨λbf H'=>∃m',m'<rest.length/\Iw m' bf H',λbf H' h=>h,?_⟩;refine⟨_,rfl,_,rfl,k,u,b,aH,rfl,r1,td1.wf,by lia,by lia,W1.hb,λf fs H3 hf0 s3 hf rf=>⟨f,rfl,⟨fs,bH.of hf⟩,λpa Zn=>?_⟩⟩;have lf:=rf.length;rw[dI]at lf;have hrl:=oy [] k;refine My (bO [] k).length (λi=>((bO [] k)[i]?).bind λr=>if decide (bI (e9 aH) r.2≠ .aW)=true then some (Nj (e9 aH) r)else none) Zn (by rw[sizeLine_eq];lia) (λi H4 hi I=>⟨?_,?_⟩) λvs H4 I h4 r4=>⟨?_,?_⟩;·obtain⟨y,hy⟩:∃y,fs[i]?=some y:=⟨_,gM (by lia)⟩;exact⟨_,y,bH.of (I _ _ hf),hy⟩
 ·rintro x Y⟨rfl,hy⟩R R0 hR hR0;obtain⟨G,So⟩:∃r,(bO [] k)[i]?=some r:=⟨_,gM hi⟩;obtain⟨y,hy',ry⟩:=rf.get (i:=i) (d:=Nj (e9 aH) G) (by rw[List.getElem?_map,So];rfl);have hx:=hy fs (bH.of (I _ _ hf));rw[hy']at hx;cases hx;have ry:=ry.mono I;obtain⟨qa,_,rfl,Zq,⟨v1,_,rfl,r1',⟨v2,_,rfl,r2',⟨v3,_,rfl,r3,rn⟩⟩⟩⟩:=id ry;cases(show _=[]from rn);simp only[So,Option.bind_some]at hR hR0;refine⟨_,rfl,qa,_,_,v3,rfl,rfl,bS.of Zq,aE (j:=2) rfl,rfl,_,rfl,?_⟩;have wr:Wf G.2:=by obtain⟨q',e1,e2⟩:=oS [] k G (zK So);exact(uG _ _ _ td1.wf e2).1
  rcases xN (inb:=e9 aH) wr with z|⟨y,z⟩;·rw[z]at r3;cases(show v3=V.aW from r3);exact jP (hR0 _ (if_neg (by rw[z];simp)) (aM.refl _))
  ·rw[z]at r3;cases(show v3=V.str y from r3.1);refine aY (λ_=>⟨_,rfl,hR _ _ _ (if_pos (by rw[z];simp)) (aM.refl _) ry⟩) (λc=>absurd (by simp) c)
 ·exact⟨_,bH.of (I _ _ hf),by lia⟩
 rw[EV,pz]at r4;have r4:bz H4 ((DC (e9 aH) k).map (Nj (e9 aH))) vs:=r4;have W3:=s3.trans I;refine⟨_,rfl,(cN rfl),λpe hpe=>?_⟩;have t5:=aq hpe (.lst []);have h5:=t5 _ _ h4;refine⟨pa,pe,vs,rfl,rfl,bH.of h5,bH.of ak,_,rfl,?_⟩;have s15:=W3.trans t5;have r5:=r4.mono t5;generalize upd H4 pe (.lst [])=Y at t5 h5 s15 r5⊢;have s05:=s1.trans s15;have hl5:=s15 _ _ h1;have rl5:=rl1.mono s15;have rd5:=r1.mono s15;clear r4 t5 h4 I s3 W3 hf rf Zn hpe;have ret:∀(x:Str)(U:Hp),x=aaI res->aM Y U->(∀d',res= .ok d'->n=rs/\k=d')->3<=sizeLine/\∀p,U p=none->Q (.ref p) (upd U p (.tup [V.str x,u, .ref lg])):=λx U hx l b9=>⟨by decide,λp hp=>by have tp:=aq hp (.tup [V.str x,u, .ref lg]);refine q p lg u us _ (s05.trans (l.trans tp)) Dh ⟨by rw[<-hx];exact ak,tp _ _ (l _ _ hl5),n,rl5.mono (l.trans tp),by lia,λd' e=>?_⟩;obtain⟨e1,e2⟩:=b9 d' e;exact⟨e1,e2▸rd5.mono (l.trans tp)⟩⟩;cases ea:DC (e9 aH) k with
  |nil=>
   rw[ea]at r5;have e0:vs=[]:=r5;refine aY (λ_=>⟨_,rfl,_,rfl,?_⟩) (λc=>absurd (decide_eq_true e0) c);have F:=Jz ea;cases rest with
    |cons r FH=>obtain⟨_,e',g,e0,_⟩:=T;rw[F]at e0;cases e0
    |nil=>
     rcases T with⟨_,e0⟩|⟨r,e0,_⟩;·exact ret "thing" Y (by rw[e0];rfl) (aM.refl _) λd' e=>by rw[e0]at e;cases e;exact⟨by rw[VF,kS],rfl⟩
     ·rw[F]at e0;cases e0
  |cons r0 afG=>
   obtain⟨y,LG,F⟩:=EW ea;rw[ea]at r5;obtain⟨va,vs',rfl,r6,_⟩:=r5;refine aY (λc=>absurd (of_decide_eq_true c) (by simp)) (λ_=>?_);refine⟨_,rfl,lg,us,rfl, .inl (bH.of hl5),_,rfl,rfl,_,rfl,aY (λc=>?_) (λc=>?_)⟩
   ·have c:V.int ((us.length:Nat):Int)=V.int (fuel:Nat):=of_decide_eq_true c;have c:((us.length:Nat):Int)=(fuel:Nat):=by cases c;rfl
    refine⟨_,rfl,_,rfl,?_⟩;cases rest with
     |cons G FH=>have :=T.1;lia
     |nil=>
      rcases T with⟨e0,_⟩|⟨G,e0,⟨_,er⟩|⟨Z,_⟩⟩;·rw[F]at e0;cases e0
      ·exact ret "dry" Y (by rw[er];rfl) (aM.refl _) λd' e=>by rw[er]at e;cases e
      ·lia
   have c:V.int ((us.length:Nat):Int)≠V.int (fuel:Nat):=of_decide_eq_false (Bool.eq_false_iff.mpr c);have c:us.length≠fuel:=λz=>c (by rw[z]);obtain⟨qa,_,rfl,Zq,⟨v1,_,rfl,r7,⟨v2,_,rfl,_,⟨v3,_,rfl,r8,rn⟩⟩⟩⟩:=id r6;cases(show _=[]from rn);rw[LG]at r8;cases(show v3=V.str y from r8.1);have YQ:Rep Y (Su (zJ r0.1)) v1:=by rw[K2];exact r7
   have L:=W.mono s05;refine⟨_,rfl,_,rfl,pa,_,_,_,rfl,rfl,bH.of h5,aE (j:=0) rfl,qa,_,_,_,rfl,rfl,bS.of Zq,aE (j:=0) rfl,_,rfl,?_⟩;cases rest with
    |nil=>
     rcases T with⟨e0,_⟩|⟨G,e0,⟨Z,_⟩|⟨_,SM,e',g,ok,QF⟩⟩;·rw[F]at e0;cases e0
     ·lia
     ·rw[F]at e0;cases e0;exact⟨B,k,e',u,v1,zJ r0.1,b,aH,y,g,rfl,rd5,YQ,L.hb,L.br,ok,L.tb,(λz J l O r6=>by rw[QF]at O;cases O),λJ l _=>⟨_,rfl,λa1 Pa=>⟨true,X.x0,qR ⟨_,rfl,_,rfl,ret "great" J (by rw[SM];rfl) l λd' e=>by rw[SM]at e;cases e⟩⟩⟩⟩
    |cons G FH=>
     obtain⟨SV,e',g,e0,ok,O,XW⟩:=T;rw[F]at e0;cases e0;refine⟨B,k,e',u,v1,zJ r0.1,b,aH,y,g,rfl,rd5,YQ,L.hb,L.br,ok,L.tb,λz J l _ r6'=>?_,λJ l QF=>by rw[O]at QF;cases QF⟩;have td6:Td (putD k (zJ r0.1) e'):=by rw[Bool.or_eq_false_iff]at O;obtain⟨k1,k2⟩:=pC O.2;exact⟨ok.rz.wf,k1,c8 k2 (by decide)⟩
     have h6:=l _ _ hl5;have h6a:=l _ _ h5;have hq6:=l _ _ Zq;refine⟨_,rfl, .inl ⟨rfl,_,bH.of h6⟩,_,rfl,pa,_,_,_,rfl,rfl,bH.of h6a,aE (j:=0) rfl,qa,_,_,_,rfl,rfl,bS.of hq6,aE (j:=0) rfl,_,rfl,pa,_,_,_,rfl,rfl,bH.of h6a,aE (j:=0) rfl,qa,_,_,_,rfl,rfl,bS.of hq6,aE (j:=2) rfl,(cN rfl),λS hp7=>?_⟩;have t7:=aq hp7 (.tup [v1,V.str y]);have h7:=t7 _ _ h6;refine⟨lg,us,_,rfl,rfl,h7,(by rw[sizeLine_eq];lia),?_⟩;have s07:=s05.trans (l.trans t7);have sH:aM H (upd (upd J S (.tup [v1,V.str y])) lg (.lst (us++[.ref S]))):=λa o ha=>by rw[aZ (aX ha Dh)];exact s07 _ _ ha
     have row:Rep (upd J S (.tup [v1,V.str y])) (Mo (r0.1,y)) (.ref S):=⟨S,_,rfl,ak,⟨_,_,rfl,(r7.mono l).mono t7,⟨_,_,rfl,⟨rfl,r8.2⟩,rfl⟩⟩⟩;refine⟨_,by show FH.length<FH.length+1;lia,n++[(r0.1,y)],FH,_,z,us++[.ref S],fl-1,_,rfl,rfl,sH,(r6'.mono t7).gX h7,td6,ak,?_,XW,by rw[iJ,EY];lia,by rw[VF,List.append_assoc];rfl⟩;rw[pG];exact(((rl5.mono l).mono t7).append (Em row)).gX h7
theorem kf:aT ["_law_thing_here","_law_fuel","_law_book_here","_law_found","_law_e"] ["_law_thing_here","_law_fuel","_law_book_here"] (ar ji):=⟨rfl,rfl,rfl,by decide+kernel,rfl,by decide+kernel,by decide+kernel⟩
theorem G6{T1 T2:Addr}(D:Df K mg "_law_told" ji ["_law_thing_here","_law_fuel","_law_book_here"])(M:Mg mg t)(X:Ek K t)(I:bp P w K mg (gv P w) "normal" (129) ["thing","fuel","book"] (Ep t.cx t.Aw T1 T2))(G:mL P w K mg bE "_law_word" 1 ["_law_e"] (Q0 K t)):bp P w K mg bE "_law_told" (140) ["_law_thing_here","_law_fuel","_law_book_here"] (IH T1 T2):=by
 refine D.ok kf (λvs H Q E h=>?_) (λbase f cS A outer s H vs Q E r h=>?_);·obtain⟨B,d,v,fuel,b,aH,rs,res,rfl,_⟩:=h;rfl
 obtain⟨B,d,v,fuel,b,aH,rs,res,rfl,rd,td,W,run,z,q⟩:=h;have F:=X.e3;have hh:=r.hd (by decide);refine⟨_,(ai (Qr rfl rfl rfl (PY (i:=3) kf.nd rfl (bY rfl) I r.m rfl rfl (ae (pv 0) (ae (pv 1) (ae (pv 2) ag)))) (acC (i:=4) true kf.nd rfl rfl F M.g_KeeperError rfl (λ_=>hh) (λa C oe l=>(aj (ay (av (ae (X9 d4 l G (r.m.mark) rfl aK (ae (pv 4) ag)) (ae (pv 0) (ae (cq ag) ag))))))) Oi)) (ai (ba (L2.PW.pt (kW (pq (gL (bj fV rfl M.bZ bP (ae (pv 3) (ae (z_ M.Bn yX rfl) ag))))) (kW (aI HU (bj bC rfl M.gQ eG (ae (pv 3) ag)) ah (aQ _)) (j1 (pq (gL (bj fV rfl M.bZ bP (ae (aP aR (pv 3) ah (λ_ _=>rfl)) (ae (z_ M.AY wR rfl) ag))))))))) (aj (ay (av (ae ao (ae (pv 0) (ae (cq ag) ag)))))) aO) (aj (ay (av (ae ao (ae (aP aR (pv 3) ah (λ_ _=>rfl)) (ae (aP aR (pv 3) ah (λ_ _=>rfl)) ag)))))))),?_⟩;try dsimp only[gu,S]
 refine Cy ?_;intro _ _ _;have Y:=td.dp;have fin:∀(x:Str)(c:Hp)(lg p:Addr),x=aaI res->aM H c->c lg=none->(upd c lg (.lst [])) p=none->(∀d',res≠ .ok d')->Q (.ref p) (upd (upd c lg (.lst [])) p (.tup [V.str x,v, .ref lg])):=λx c lg p L s2 g hp no=>by have t1:=aq g (.lst []);have t2:=aq hp (.tup [V.str x,v, .ref lg]);exact q p lg v [] _ (s2.trans (t1.trans t2)) (s2.free g) ⟨by rw[<-L];exact ak,t2 _ _ ak,[],rfl,eB _,λd' e=>absurd e (no d')⟩
 refine⟨_,rfl,_,rfl,_,rfl,B,d,v,fuel,b,aH,rs,res,rfl,rd,⟨td.wf,by lia,eB _⟩,W.hb,W.br,run,z,W.tb,λd' n lg us u y k s1 m g O R N=>?_,λk y s1=>⟨_,rfl,λa1 J=>⟨true,X.s0,qR ?_⟩⟩,λk y s1=>⟨_,rfl,λa1 J=>⟨true,X.s1,qR ?_⟩⟩⟩;·have U:=s1;refine⟨_,rfl, .ref n,_,_,true,rfl, .tup m,rfl,true,rfl,jP ?_⟩;refine⟨_,rfl,n,_,rfl, .inr (bS.of m),rfl,_,rfl,jP ?_⟩;refine⟨_,rfl,n,_,_,_,rfl,rfl,bS.of m,aE (j:=1) rfl, .ref lg,_,_,true,rfl, .lst g,rfl,true,rfl,jP ?_⟩;refine⟨_,rfl,n,_,_,_,rfl,rfl,bS.of m,aE (j:=0) rfl,_,rfl,n,_,_,_,rfl,rfl,bS.of m,aE (j:=1) rfl,(cN rfl),λp hp=>?_⟩;have t1:=aq hp (.tup [V.str "thing",u, .ref lg]);refine q p lg u us _ (s1.trans t1) N ⟨by rw[k];exact ak,t1 _ _ g,rs,O.mono t1,z,λT e=>?_⟩;rw[k]at e;cases e;exact⟨rfl,R.mono t1⟩
 ·refine⟨_,rfl,λb' oe l o=>⟨a1,_,oe,"great",rfl,o,l,⟨_,_,_,_,X.w0, .gr⟩,λc s2=>⟨_,rfl,(cN rfl),λlg g=>⟨(cN rfl),λp hp=>?_⟩⟩⟩⟩;exact fin "great" c lg p (by rw[k];rfl) (s1.trans s2) g hp λd' e=>by rw[k]at e;cases e
 ·refine⟨_,rfl,λb' oe l o=>⟨a1,_,oe,"dry",rfl,o,l,⟨_,_,_,_,X.w1, .dr⟩,λc s2=>⟨_,rfl,(cN rfl),λlg g=>⟨(cN rfl),λp hp=>?_⟩⟩⟩⟩;exact fin "dry" c lg p (by rw[k];rfl) (s1.trans s2) g hp λd' e=>by rw[k]at e;cases e
theorem ml{H:Hp}:∀{ds:List D}{us:List V},bz H ds us->fI H (ds.map DX.d) us|[],us,h=>h|d::ds,_,⟨v,us,e,h,t⟩=>⟨v,us,e,h,ml t⟩
theorem P_:∀ds:List D,BB (ds.map DX.d)=FK ds|[]=>rfl|d::ds=>by show(Sj d&&BB (ds.map DX.d))=(Sj d&&FK ds);rw[P_ ds]
theorem QD:∀ds:List D,jO (ds.map DX.d)=aD ds|[]=>by simp[jO,aD]|d::ds=>by rw[d7,jO,aD,QD ds,Vm]
theorem JV:∀pl:List Nat,FK (pl.map λi=>D.int (i:Nat))=true|[]=>rfl|i::pl=>JV pl
theorem JU:∀pl:List Nat,aD (pl.map λi=>D.int (i:Nat))=0|[]=>by simp[aD]|i::pl=>by rw[d7,aD,JU pl];simp[depth]
theorem Lm:∀rs:List qU,FK (rs.map Mo)=true|[]=>rfl|r::rs=>by show((FK (r.1.map λi=>D.int (i:Nat))&&(true&&true))&&FK (rs.map Mo))=true;rw[Lm rs,JV];rfl
theorem II:∀rs:List qU,aD (rs.map Mo)<=4|[]=>by simp[aD]|r::rs=>by rw[d7,aD];refine Nat.max_le.mpr ⟨?_,II rs⟩;unfold Mo WX;simp only[depth,aD,JU];decide
def Ra:Sp:=λvs H Q _=>∃(res:Out)(rs:List qU)(a c b d:Addr)(e f:V)(g h:List V),vs=[.ref a, .ref b]/\ND H res rs a c e g/\ND H res rs b d f h/\(∀d',res= .ok d'->Td d')/\Q (.bl true) H
theorem D5:aT ["_law_found","_law_due_here"] ["_law_found","_law_due_here"] (ar iY):=⟨rfl,rfl,rfl,by decide+kernel,rfl,by decide+kernel,by decide+kernel⟩
theorem FL(D:Df K mg "_law_same" iY ["_law_found","_law_due_here"])(M:Mg mg t):bp P w K mg bE "_law_same" (1) ["_law_found","_law_due_here"] Ra:=by
 refine D.ok D5 (λvs H Q E h=>?_) (λbase f cS A outer s H vs Q E u h=>?_);·obtain⟨res,rs,g,n,i,o,B,C,p,r,rfl,_⟩:=h;rfl
 obtain⟨res,rs,g,n,i,o,B,C,p,r,rfl,b,e,td,q⟩:=h;have m:=ZX u;refine⟨_,(ai (ba (aI HU (aP aR (pv 0) ah (λ_ _=>rfl)) (aP aR (pv 1) ah (λ_ _=>rfl)) (aQ _)) (aj (ay AQ)) aO) (aj (ay (Q9 (gd HU (aP aR (pv 0) ah (λ_ _=>rfl)) ao (aQ _)) (xA (GY (gd (Xn m) (aP aR (pv 0) ah (λ_ _=>rfl)) (aP aR (pv 1) ah (λ_ _=>rfl)) (aQ _)) (xA (gd (Uy m) (aP aR (pv 0) ah (λ_ _=>rfl)) (aP aR (pv 1) ah (λ_ _=>rfl)) (aQ _))))))))),?_⟩;try dsimp only[gu,F]
 refine pb ?_;intro _ _;refine⟨_,rfl,g,_,_,_,rfl,rfl,bS.of b.hp,aE (j:=0) rfl,_,rfl,i,_,_,_,rfl,rfl,bS.of e.hp,aE (j:=0) rfl,?_⟩;refine⟨rfl,_,rfl,aY (λc=>absurd c (by simp)) (λ_=>?_)⟩;refine⟨_,rfl,g,_,_,_,rfl,rfl,bS.of b.hp,aE (j:=0) rfl,?_⟩;cases res with
  |great=>exact⟨rfl,_,rfl,aY (λ_=>q) (λc=>absurd (by decide+kernel) c)⟩
  |dry=>exact⟨rfl,_,rfl,aY (λ_=>q) (λc=>absurd (by decide+kernel) c)⟩
  |ok d=>
   refine⟨rfl,_,rfl,aY (λc=>absurd c (by show¬(!decide (V.str "thing"=V.str "thing"))=true;decide+kernel)) (λ_=>?_)⟩;obtain⟨G,a1,b1,c1⟩:=b.rr;obtain⟨l,a2,b2,c2⟩:=e.rr;obtain⟨rfl,y⟩:=c1 d rfl;obtain⟨rfl,z⟩:=c2 d rfl;obtain⟨⟨k,wf⟩,dp,_⟩:=td d rfl;have v:=QI wf;obtain⟨x,ps,rfl⟩:=cz wf;refine⟨_,rfl,g,_,_,_,rfl,rfl,bS.of b.hp,aE (j:=1) rfl,_,rfl,i,_,_,_,rfl,rfl,bS.of e.hp,aE (j:=1) rfl,?_⟩;refine⟨(KM.D.str x::ps).map DX.d,?_,?_,?_,?_,?_⟩;·obtain⟨a,vs,e1,e2,e3⟩:=y;exact⟨a,vs,e1,e2,ml e3⟩
   ·obtain⟨a,vs,e1,e2,e3⟩:=z;exact⟨a,vs,e1,e2,ml e3⟩
   ·rw[P_];exact v
   ·rw[QD];simp only[depth]at dp;lia
   refine⟨_,rfl,aY (λ_=>?_) (λc=>absurd rfl c)⟩;refine⟨_,rfl,g,_,_,_,rfl,rfl,bS.of b.hp,aE (j:=2) rfl,_,rfl,i,_,_,_,rfl,rfl,bS.of e.hp,aE (j:=2) rfl,?_⟩;refine⟨(l.map Mo).map DX.d,⟨n,p,rfl,b.hl,ml a1⟩,⟨o,r,rfl,e.hl,ml a2⟩,?_,?_,q⟩;·rw[P_,Lm]
   ·rw[QD];exact c8 (II l) (by decide)
theorem E6:∀{aH:List (Key×V)}{k:Key}{v:V},fb aH k=some v->(k,v)∈aH
 |[],k,v,h=>by simp[fb]at h
 |(a,b)::aH,k,v,h=>by
  by_cases e:a=k;·subst e;rw[fH rfl]at h;cases h;exact d4
  ·rw[fR e]at h;exact dW _ (E6 h)
theorem Et{H:Hp}{aH:List (Key×V)}(h:Bk H aH):∃B,Nz H aH B/\BkB (e9 aH) B:=by
 have b:∀y:Str,∃d:D,e9 aH y=true->(∃(q:Addr)(i e:V),fb aH (Sum.inr y:Key)=some (.ref q)/\H q=some (.tup [i,e])/\Rep H d e)/\bu aw false d=true/\depth d<=16:=λy=>by
  by_cases a:e9 aH y=true;·obtain⟨v,c⟩:=Option.isSome_iff_exists.mp (show(fb aH (Sum.inr y:Key)).isSome=true from a);obtain⟨q,n,g,k,l,rfl,hq,_,_,j,m,_,f,_⟩:=h.each _ _ (E6 c);exact⟨g,λ_=>⟨⟨q,k,l,c,hq,j⟩,m,f⟩⟩
  ·exact⟨.aW,λz=>absurd z a⟩
 refine⟨λy=>(b y).choose,λy a=>((b y).choose_spec a).1,λy a=>((b y).choose_spec a).2⟩
noncomputable def dG:Str:="abcdefghijklmnopqrstuvwxyz"
theorem Af{n:Nat}(h:n<26):∃c,lP dG.cps.toList ((n:Nat):Int)=some c:=by
 have e:dG.cps.toList.length=26:=by decide+kernel
 exact⟨_,aE (gM (by lia))⟩
theorem len_one(c:Nat):(⟨#[c]⟩:Str).length=1:=rfl
theorem len_cat(a b:Str):(a++b).length=a.length+b.length:=by show(a.cps++b.cps).size=_;rw[Array.size_append];rfl
theorem lW{n:Nat}(h:n<676):∃c1 c2,lP dG.cps.toList (((n:Nat):Int)/26)=some c1/\lP dG.cps.toList (((n:Nat):Int)%26)=some c2:=by obtain⟨c1,e1⟩:=Af (n:=n/26) (by lia);obtain⟨c2,e2⟩:=Af (n:=n%26) (by lia);exact⟨c1,c2,e1,e2⟩
noncomputable def qw(c1 c2:Nat):Str:=Str.ofString "q"++⟨#[c1]⟩++⟨#[c2]⟩
theorem G4(c1 c2:Nat):(qw c1 c2).length<=1000:=by unfold qw;rw[len_cat,len_cat,len_one,len_one];decide+kernel
theorem NG(c1:Nat):(Str.ofString "q").length+(⟨#[c1]⟩:Str).length<=sizeLine:=by rw[len_one];decide+kernel
theorem N8(c1 c2:Nat):(Str.ofString "q"++(⟨#[c1]⟩:Str)).length+(⟨#[c2]⟩:Str).length<=sizeLine:=by rw[len_cat,len_one,len_one];decide+kernel
theorem oD:dG.length<=sizeLine:=by decide+kernel
theorem cdq(n:Int):aa1 n 26:=⟨by decide,by decide⟩
def Jg:Sp:=λvs H Q _=>∃(m:Nat)(b:Addr)(aH:List (Key×V)),vs=[.int (m:Nat), .ref b]/\m<=600/\H b=some (.dK aH)/\Bk H aH/\aH.length<=3/\∀(a:List (Key×V))(x:Str)(H':Hp),H' b=some (.dK a)->Bk H' a->a.length<=m+3->bx b H H'->x.length<=1000->Q (.str x) H'
theorem eR:aT ["_law_many","_law_book_here","_law_letters","_law_k","_law_after","_law_word_here"] ["_law_many","_law_book_here"] (ar ia):=⟨rfl,rfl,rfl,by decide+kernel,rfl,by decide+kernel,by decide+kernel⟩
theorem E4(D:Df K mg "_law_chain" ia ["_law_many","_law_book_here"])(M:Mg mg t):bp P w K mg bE "_law_chain" (1) ["_law_many","_law_book_here"] Jg:=by
 refine D.ok eR (λvs H Q E h=>?_) (λbase f cS A outer s H vs Q E Y h=>?_);·obtain⟨m,b,aH,rfl,_⟩:=h;rfl
 obtain⟨m,b,aH,rfl,hm,hb,S,hl,q⟩:=h;have Z:=x_ Y;refine⟨_,(ai (aF (i:=2) eR.nd rfl (bY rfl) ao) (ai (fz PassesOwn.never rfl (dR rfl M.f9 (ae (pv 0) ag)) (bL (i:=3) eR.nd rfl (bY rfl)) (ai (aF (i:=4) eR.nd rfl (bY rfl) (aS cE (pv 3) ah)) (ai (aF (i:=5) eR.nd rfl (bY rfl) (aS cG (aS cG ao (aP jk (pv 2) (aS sA (pv 3) ah) (λ_ _=>rfl))) (aP jk (pv 2) (aS gW (pv 3) ah) (λ_ _=>rfl)))) (aj (Cu Z (pv 1) (pv 5) (av (ae (av (ae ao ag)) (ae (av (ae ao (ae (aS cG (aS cG ao (aP jk (pv 2) (aS sA (pv 4) ah) (λ_ _=>rfl))) (aP jk (pv 2) (aS gW (pv 4) ah) (λ_ _=>rfl))) ag))) ag))) rfl))))) (aj (ay (aS cG (aS cG ao (aP jk (pv 2) (aS sA (pv 0) ah) (λ_ _=>rfl))) (aP jk (pv 2) (aS gW (pv 0) ah) (λ_ _=>rfl))))))),?_⟩;try dsimp only[gu,cH]
 refine Cy ?_;intro _ _ _;refine⟨_,rfl,_,rfl,(by show-(2^62)<=((m:Nat):Int);lia),(by show((m:Nat):Int)<2^62;lia),?_⟩;let O:Nat->L2.St->Hp->Prop:=(λk F H'=>∃(d:List (Key×V))(v x y:Option V),F=[some (.int (m:Nat)),some (.ref b),some (.str dG),v,x,y]/\H' b=some (.dK d)/\d.length<=k+3/\Bk H' d/\bx b H H');refine gy (((m:Nat):Int)-0).toNat O ?_ ?_ ?_;·exact⟨aH,none,none,none,rfl,hb,by lia,S,λ_ _ _ h=>h⟩
 ·rintro k F G T⟨d,v,x,y,rfl,h1,l1,o,B⟩;refine⟨T,?_⟩;rintro x' p⟨rfl,rfl⟩;have e0:(0:Int)+(k:Int)=((k:Nat):Int):=by lia
  rw[e0];refine⟨_,rfl,_,_,rfl,rfl,?_⟩;obtain⟨c1,c2,e1,e2⟩:=lW (n:=k) (by lia);obtain⟨e,g,f1,f2⟩:=lW (n:=k+1) (by lia);refine⟨_,rfl,_,rfl,_,_,rfl,rfl,cdq _,dG,_,c1,rfl,rfl,oD,e1,_,_,rfl,rfl,NG _,_,rfl,_,rfl,_,_,rfl,rfl,(show(0:Int)<26 by decide),dG,_,c2,rfl,rfl,oD,e2,_,_,rfl,rfl,N8 _ _,?_⟩;have hx:(qw c1 c2).length<=1000:=G4 _ _;have hy:(qw e g).length<=1000:=G4 _ _;refine⟨(cN rfl),λa U=>?_⟩;have t1:=aq U (.tup [V.str "nat"]);refine⟨_,rfl,_,rfl,_,_,rfl,rfl,cdq _,dG,_,e,rfl,rfl,oD,f1,_,_,rfl,rfl,NG _,_,rfl,_,rfl,_,_,rfl,rfl,(show(0:Int)<26 by decide),dG,_,g,rfl,rfl,oD,f2,_,_,rfl,rfl,N8 _ _,(cN rfl),λc W=>⟨(cN rfl),λj X=>?_⟩⟩;have t2:=aq W (.tup [V.str "name", .str (Str.ofString "q"++(⟨#[e]⟩:Str)++(⟨#[g]⟩:Str))]);have z:=aq X (.tup [V.ref a, .ref c]);have I:=z _ _ (t2 _ _ (show(upd p a (.tup [V.str "nat"])) a=some (.tup [V.str "nat"])from ak));have J:=z _ _ (show(upd (upd p a (.tup [V.str "nat"])) c (.tup [V.str "name", .str (Str.ofString "q"++(⟨#[e]⟩:Str)++(⟨#[g]⟩:Str))])) c=some (.tup [V.str "name", .str (Str.ofString "q"++(⟨#[e]⟩:Str)++(⟨#[g]⟩:Str))])from ak);have L:(upd (upd (upd p a (.tup [V.str "nat"])) c (.tup [V.str "name", .str (Str.ofString "q"++(⟨#[e]⟩:Str)++(⟨#[g]⟩:Str))])) j (.tup [V.ref a, .ref c])) j=some (.tup [V.ref a, .ref c]):=ak;have r:=t1.trans (t2.trans z);generalize upd (upd (upd p a (.tup [V.str "nat"])) c (.tup [V.str "name", .str (Str.ofString "q"++(⟨#[e]⟩:Str)++(⟨#[g]⟩:Str))])) j (.tup [V.ref a, .ref c])=l at I J L r⊢;have h4:=r _ _ h1;refine⟨_,rfl,_,rfl,b,_,rfl,FW.k (k:=Sum.inr (qw c1 c2)) h4 (by have :d.length<=1000:=o.len;exact Nat.lt_of_le_of_lt this (by decide)),?_⟩;have C:bx b l (upd l b (.dK (putK d (Sum.inr (qw c1 c2)) (.ref j)))):=bx.upd _;have rk:Rep l (.tup [.str "nat"]) (.ref a):=⟨a,_,rfl,I,Sk ir r0⟩;have rt':Rep l (.tup [.str "name", .str (qw e g)]) (.ref c):=⟨c,_,rfl,J,Sk ir (Sk ⟨rfl,hy⟩ r0)⟩;have R:Sl l (.ref j):=⟨j,_,_,_,_,rfl,L,rk,jV,rt',Bb rfl,by simp only[depth,aD];lia,by simp only[depth,aD];lia,by simp only[aC,aL];lia,by simp only[aC,aL];lia⟩;have N:=o.mono r;refine⟨putK d (Sum.inr (qw c1 c2)) (.ref j),_,_,_,rfl,ak,c8 og (by lia),⟨c8 og (by lia),λk' v' u=>?_⟩,B.trans (r.x.trans C)⟩;rcases Bg u with u|rfl;·exact(N.each k' v' u).sx C (dS h4)
  ·exact R.sx C (dS h4)
 ·rintro F G⟨d,v,x,y,rfl,h1,l1,o,B⟩;refine⟨bK _,?_⟩;obtain⟨c1,c2,e1,e2⟩:=lW (n:=m) (by lia);refine⟨_,rfl,_,rfl,_,_,rfl,rfl,cdq _,dG,_,c1,rfl,rfl,oD,e1,_,_,rfl,rfl,NG _,_,rfl,_,rfl,_,_,rfl,rfl,(show(0:Int)<26 by decide),dG,_,c2,rfl,rfl,oD,e2,_,_,rfl,rfl,N8 _ _,?_⟩;exact q d _ G h1 o (by lia) B (G4 c1 c2)
theorem aae{σ:L2.St}{H:Hp}{b:TE}{g:TG}{ts:TS}{d:D}{a:Ends}(h:Mk σ H b d)(c:∀v H',aM H H'->Rep H' d v->g v σ H' (ts a)):bA (Ur b g) ts a σ H:=h H (aM.refl H) _ c
theorem aaC{σ:L2.St}{H:Hp}{b:TE}{d:D}{a:Ends}(h:Mk σ H b d)(c:∀v H',aM H H'->Rep H' d v->a.rt v H'):XO b a σ H:=h H (aM.refl H) _ c
structure Num(H:Hp)(d:D)(u:V)(j:Nat):Prop where
 r:Rep H d u
 w:bu aw false d=true
 dp:depth d<=1+j
 kn:aC d<=1+j
theorem Num.next{H:Hp}{d:D}{u:V}{j:Nat}{p:Addr}(h:Num H d u j)(hp:H p=none):Num (upd H p (.tup [V.str "next",u])) (.tup [.str "next",d]) (.ref p) (j+1):=by have hd:=h.dp;have b:=h.kn;refine⟨eC hp (Sk ir (Sk h.r r0)),kH h.w,c8 (xY (m:=1+j) λe a=>?_) (by lia),by simp only[aC,aL];lia⟩;cases List.mem_singleton.mp a;exact hd
theorem Num.zero{H:Hp}{p:Addr}(hp:H p=none):Num (upd H p (.tup [V.str "zero"])) (.tup [.str "zero"]) (.ref p) 0:=⟨eC hp (Sk ir r0),fD,by simp[depth,aD],by simp[aC,aL]⟩
theorem Num.mono{H H':Hp}{d:D}{u:V}{j:Nat}(h:Num H d u j)(s:aM H H'):Num H' d u j:=⟨h.r.mono s,h.w,h.dp,h.kn⟩
noncomputable def xr:D:= .tup [.str "fun", .tup [.str "nat"], .tup [.str "fun", .tup [.str "nat"], .tup [.str "next", .tup [.str "var", .int 0]]]]
def Wq(K:PySem.W.Frag):Sp:=λvs H Q _=>∃(a p c:Addr)(ns:List Int)(i:Int),vs=[.ref a, .ref p]/\Sg K a p c ns H i/\i<2^50/\∀(d:D)(v:V)(H':Hp),Rep H' d v->Td d->bx p H H'->Sg K a p c ns H' (i+1+1)->Q v H'
theorem dQ:aT ["_law_script","_law_tape","_law_one","_law_k","_law_two","_law_more"] ["_law_script","_law_tape"] (ar kP):=⟨rfl,rfl,rfl,by decide+kernel,rfl,by decide+kernel,by decide+kernel⟩
theorem LV(D:Df K mg "_law_sum" kP ["_law_script","_law_tape"])(M:Mg mg t)(X:bp P w K mg bE "_law_draw" (1) C4 (eJ K)):bp P w K mg bE "_law_sum" (2) ["_law_script","_law_tape"] (Wq K):=by
 refine D.ok dQ (λvs H Q E h=>?_) (λbase f cS A outer s H vs Q E hr h=>?_);·obtain⟨a,p,c,ns,i,rfl,_⟩:=h;rfl
 obtain⟨a,p,c,ns,i,rfl,g,hi,q⟩:=h;have i0:=g.T.i0;refine⟨_,(ai (aF (i:=2) dQ.nd rfl (bY rfl) (av (ae ao ag))) (ai (fz PassesOwn.never rfl (dR rfl M.f9 (ae (aJ X hr.m rfl aK (ae (pv 0) (ae (pv 1) (ae ah ag)))) ag)) (bL (i:=3) dQ.nd rfl (bY rfl)) (aj (aF (i:=2) dQ.nd rfl (bY rfl) (av (ae ao (ae (pv 2) ag)))))) (ai (aF (i:=4) dQ.nd rfl (bY rfl) (av (ae ao ag))) (ai (fz PassesOwn.never rfl (dR rfl M.f9 (ae (aJ X hr.m rfl aK (ae (pv 0) (ae (pv 1) (ae ah ag)))) ag)) (bL (i:=3) dQ.nd rfl (bY rfl)) (aj (aF (i:=4) dQ.nd rfl (bY rfl) (av (ae ao (ae (pv 4) ag)))))) (ai (aF (i:=5) dQ.nd rfl (bY rfl) (av (ae ao (ae (av (ae ao ag)) (ae (av (ae ao (ae (av (ae ao ag)) (ae (av (ae ao (ae (av (ae ao (ae ah ag))) ag))) ag)))) ag))))) (aj (ay (av (ae ao (ae (av (ae ao ag)) (ae (pv 4) (ae (pv 5) (ae (pv 2) ag))))))))))))),?_⟩;try dsimp only[gu,cH]
 refine MU ?_;intro _ _ _ _ _ _;refine⟨(cN rfl),λp1 S=>?_⟩;have z:=Num.zero S;have F:=g.mono (aq S (.tup [V.str "zero"]));have x1:=(aq S (.tup [V.str "zero"])).x (p:=p);generalize upd H p1 (.tup [V.str "zero"])=H1 at z F x1⊢;refine⟨_,rfl,_,rfl,a,p,ns,i,5,rfl,F.T,(by lia),(by decide),λm Y m0 m1 W h2=>⟨_,rfl,(by lia),(by lia),?_⟩⟩;have g2:=F.next W h2 (by lia);have n2:Num Y _ (.ref p1) 0:=⟨F.rep W z.r,z.w,z.dp,z.kn⟩;have x12:=x1.trans W;let O:Nat->L2.St->Hp->Prop:=(λj b H'=>∃(d:KM.D)(u:V)(k:Option V),b=[some (.ref a),some (.ref p),some u,k,none,none]/\aM Y H'/\Num H' d u j);refine gy m.toNat O ?_ ?_ ?_;·exact⟨_,_,none,rfl,aM.refl _,n2⟩
 ·rintro j b Z R⟨d,u,k,rfl,I,T⟩;refine⟨R,?_⟩;rintro x' H3'⟨rfl,rfl⟩;refine⟨_,rfl,(cN rfl),λU r=>?_⟩;exact⟨_,_,_,rfl,I.trans (aq r _),T.next r⟩
 rintro b Z⟨d1,u1,k,rfl,I,T⟩;refine⟨bK _,?_⟩;refine⟨(cN rfl),λU r=>?_⟩;have B:=Num.zero r;have t4:=aq r (.tup [V.str "zero"]);have o:=(g2.mono I).mono t4;have x4:=x12.trans ((I.trans t4).x (p:=p));have y:=T.mono t4;generalize upd Z U (.tup [V.str "zero"])=H4 at B t4 o x4 y⊢;refine⟨_,rfl,_,rfl,a,p,ns,i+1,5,rfl,o.T,(by lia),(by decide),λl N l0 l1 L h5=>⟨_,rfl,(by lia),(by lia),?_⟩⟩;have g5:=o.next L h5 (by lia);have n5:Num N _ (.ref U) 0:=⟨o.rep L B.r,B.w,B.dp,B.kn⟩;have m5:Num N d1 u1 m.toNat:=⟨o.rep L y.r,y.w,y.dp,y.kn⟩;let O:Nat->L2.St->Hp->Prop:=(λj b H'=>∃(d:KM.D)(u:V)(k:Option V),b=[some (.ref a),some (.ref p),some u1,k,some u,none]/\aM N H'/\Num H' d u j);refine gy l.toNat O ?_ ?_ ?_;·exact⟨_,_,_,rfl,aM.refl _,n5⟩
 ·rintro j b H6 R⟨d,u,k,rfl,C,n⟩;refine⟨R,?_⟩;rintro x' H6'⟨rfl,rfl⟩;refine⟨_,rfl,(cN rfl),λp7 hp7=>?_⟩;exact⟨_,_,_,rfl,C.trans (aq hp7 _),n.next hp7⟩
 rintro b H6⟨d2,u2,kv2,rfl,C,n⟩;refine⟨bK _,?_⟩;have G:=m5.mono C;have hd1:=G.dp;have hk1:=G.kn;have hd2:=n.dp;have hk2:=n.kn;simp(config:={zetaDelta:=true})only[];refine aae (d:=xr) ?_ λvm H7 J r7=>?_;·unfold xr;repeat' first|exact eE|exact OQ|exact dD|apply bW|apply eK|(simp only[cF,e_];decide)
 have wm:bu aw false xr=true:=CS jV (CS jV (kH (BA (Int.le_refl 0))));show XO _ _ _ H7;refine aaC (d:= .tup [.str "rec", .tup [.str "nat"],d2,xr,d1]) ?_ λv H8 s8 r8=>?_;·have r1:=G.r.mono J;have r2:=n.r.mono J;refine eK (bW eE (bW (eK (bW eE dD)) (bW (eW rfl r2) (bW (eW rfl r7) (bW (eW rfl r1) dD))))) (by simp only[cF,e_];decide)
 refine q _ v H8 r8 ⟨⟨false,xm jV n.w wm G.w⟩,?_,?_⟩ (x4.trans (L.trans (C.trans (J.trans s8)).x)) (g5.mono (C.trans (J.trans s8)))
 ·refine c8 (xY (m:=8) λe he=>?_) (by decide);simp only[gF,jf,or_false]at he;rcases he with rfl|rfl|rfl|rfl;·simp[depth,aD]
  ·lia
  ·simp[xr,depth,aD]
  ·lia
 ·have :aC xr<=8:=by simp[xr,aC,aL]
  simp only[aC,aL];lia
def Iv(K:PySem.W.Frag)(T1 T2:Addr):Sp:=λvs H Q _=>∃(a:Addr)(ns:List Int),vs=[.ref a]/\bH K H a (ns.map V.int)/\ns.length<=63/\FR H T1 T2/\∀H',Q (.bl true) H'
structure Go(K:PySem.W.Frag)(a p c b T1 T2:Addr)(ns:List Int)(H:Hp)(B:Str->D)(aH:List (Key×V))(d:D)(v:V)(i:Int):Prop where
 rd:Rep H d v
 td:Td d
 bs:Bs H B b aH T1 T2
 bk:Bk H aH
 g:Sg K a p c ns H i
 hi:i<2^45
theorem Go.mono{a p c b T1 T2:Addr}{ns:List Int}{H H':Hp}{B:Str->D}{aH:List (Key×V)}{d:D}{v:V}{i:Int}(h:Go K a p c b T1 T2 ns H B aH d v i)(s:aM H H'):Go K a p c b T1 T2 ns H' B aH d v i:=⟨h.rd.mono s,h.td,h.bs.mono s,h.bk.mono s,h.g.mono s,h.hi⟩
theorem Go.next{a p c b T1 T2:Addr}{ns:List Int}{H H':Hp}{B:Str->D}{aH:List (Key×V)}{d:D}{v:V}{i:Int}(h:Go K a p c b T1 T2 ns H B aH d v i)(x:bx p H H')(hp:H' p=some (.lst [.int (i+1)]))(hi:i+1<2^45):Go K a p c b T1 T2 ns H' B aH d v (i+1):=⟨h.g.rep x h.rd,h.td,h.bs.sx x h.g.T.gh,h.bk.sx x (cf h.g.T.gh),h.g.next x hp (by have :=h.g.T.i0;lia),hi⟩
theorem Jp{H:Hp}:∀{rows:List qU}{us:List V},bz H (rows.map Mo) us->∀z∈us,∃a,z=V.ref a
 |[],us,h,z,b=>by cases(show us=[]from h);cases b
 |r::rows,_,⟨v,vs,e,h,t⟩,z,b=>by
  subst e;rcases List.mem_cons.mp b with rfl|b;·obtain⟨a,_,e,_⟩:=h;exact⟨a,e⟩
  ·exact Jp t z b
theorem abQ{σ:L2.St}{H:Hp}{sp:Sp}{c:TE}{b:TA}{ts:TS}{d:D}{a:Ends}(h:Mk σ H c d)(g:∀v H',aM H H'->Rep H' d v->b σ H' (λvs e=>sp (v::vs++[]) e (λ_ f=>ts a σ f) E0)):bA (VO (Wy sp [] E0 (KP c b))) ts a σ H:=h H (aM.refl H) _ g
theorem c7:aT ["_law_script","_law_tape","_law_pool_here","_law_book_here","_law_thing_here","_law_fuel","_law_many","_law_due_here","_law_handed","_law_found","_law_second","_law_kept"] ["_law_script"] (ar J6):=⟨rfl,rfl,rfl,by decide+kernel,rfl,by decide+kernel,by decide+kernel⟩
theorem ach{f T1 T2:Addr}{fd:FuncData}(F:WW K "law" "law" J6 f fd)(M:Mg mg t)(r:bp P w K mg bE "_law_draw" (1) C4 (eJ K))(Hh:bp P w K mg bE "_law_pool" (2) ["_law_script","_law_tape"] (N2 K))(Hj:bp P w K mg bE "_law_book" (154) ["_law_script","_law_tape","_law_pool_here"] (PV K))(DO:bp P w K mg bE "_law_thing" (154) eN (K5 K))(cJ:bp P w K mg bE "_law_measured" (172) ["_law_thing_here"] (oI 41))(E7:bp P w K mg bE "_law_under" (174) ["_law_script","_law_tape","_law_thing_here"] (LH K))(Mi:bp P w K mg bE "_law_sum" (2) ["_law_script","_law_tape"] (Wq K))(D4:bp P w K mg bE "_law_chain" (1) ["_law_many","_law_book_here"] Jg)(AE:bp P w K mg bE "_law_due" (140) ["_law_thing_here","_law_fuel","_law_book_here"] (IH T1 T2))(lV:bp P w K mg bE "_law_told" (140) ["_law_thing_here","_law_fuel","_law_book_here"] (IH T1 T2))(yO:bp P w K mg bE "_law_same" (1) ["_law_found","_law_due_here"] Ra):oN P w K mg base bE 193 f fd ["_law_script"] (Iv K T1 T2):=by
 refine F.ok c7 (λvs H Q E h=>?_) (λcS A outer s H vs Q E e h=>?_);·obtain⟨a,ns,rfl,_⟩:=h;rfl
 obtain⟨a,ns,rfl,hS,hlen,hT,q⟩:=h;have hu:=x_ e;have hh:=e.hd (by decide);refine⟨_,(ai (aF (i:=1) c7.nd rfl (bY rfl) (cq (ae ah ag))) (ai (aF (i:=2) c7.nd rfl (bY rfl) (aJ Hh e.m rfl aK (ae (pv 0) (ae (pv 1) ag)))) (ai (aF (i:=3) c7.nd rfl (bY rfl) (aJ Hj e.m rfl aK (ae (pv 0) (ae (pv 1) (ae (pv 2) ag))))) (ai (aF (i:=4) c7.nd rfl (bY rfl) (aJ DO e.m rfl aK (ae (pv 0) (ae (pv 1) (ae (aS cE ah (aJ r e.m rfl aK (ae (pv 0) (ae (pv 1) (ae ah ag))))) (ae (aP bQ (cq (ae ah (ae ah (ae ah ag)))) (aJ r e.m rfl aK (ae (pv 0) (ae (pv 1) (ae ah ag)))) (λ_ _=>rfl)) (ae (pv 2) ag))))))) (ai (aF (i:=5) c7.nd rfl (bY rfl) (aJ r e.m rfl aK (ae (pv 0) (ae (pv 1) (ae ah ag))))) (i8 (ba (L2.PW.pt (Cw (aI bR (aJ r e.m rfl aK (ae (pv 0) (ae (pv 1) (ae ah ag)))) ah (aQ _)) (vw (aI jK (aP aR (aJ cJ e.m rfl aK (ae (pv 4) ag)) ah (λ_ _=>rfl)) ah (aQ _))))) (aj (aF (i:=5) c7.nd rfl (bY rfl) (aJ r e.m rfl aK (ae (pv 0) (ae (pv 1) (ae ah ag)))))) aO) (ai (aF (i:=4) c7.nd rfl (bY rfl) (aJ E7 e.m rfl aK (ae (pv 0) (ae (pv 1) (ae (pv 4) ag))))) (i8 (ba (aI bR (aJ r e.m rfl aK (ae (pv 0) (ae (pv 1) (ae ah ag)))) ah (aQ _)) (ai (aF (i:=4) c7.nd rfl (bY rfl) (aJ Mi e.m rfl aK (ae (pv 0) (ae (pv 1) ag)))) (aj (aF (i:=5) c7.nd rfl (bY rfl) ah))) aO) (i8 (ba (aI bR (aJ r e.m rfl aK (ae (pv 0) (ae (pv 1) (ae ah ag)))) ah (aQ _)) (ai (aF (i:=6) c7.nd rfl (bY rfl) (aS cE (aJ r e.m rfl aK (ae (pv 0) (ae (pv 1) (ae ah ag)))) (aS yz ah (fA Ae rfl M.O_ G2 (ae (gd bR (aJ r e.m rfl aK (ae (pv 0) (ae (pv 1) (ae ah ag)))) ah (aQ _)) ag))))) (ai (Cu hu (pv 3) (aJ D4 e.m rfl aK (ae (pv 6) (ae (pv 3) ag))) (av (ae (av (ae ao ag)) (ae (av (ae ao ag)) ag))) rfl) (ai (aF (i:=4) c7.nd rfl (bY rfl) (av (ae ao (ae ao ag)))) (aj (aF (i:=5) c7.nd rfl (bY rfl) ah))))) aO) (ai (aF (i:=7) c7.nd rfl (bY rfl) (aJ AE e.m rfl aK (ae (pv 4) (ae (pv 5) (ae (pv 3) ag))))) (i8 (ba (L2.PW.pt (Cw (aI bR (aJ r e.m rfl aK (ae (pv 0) (ae (pv 1) (ae ah ag)))) ah (aQ _)) (vw (aI bR (aP aR (pv 7) ah (λ_ _=>rfl)) ao (aQ _))))) (ai (aF (i:=5) c7.nd rfl (bY rfl) (bj (oZ hh) rfl M.HX CJ (ae ah (ae (aS bG (bj bC rfl M.gQ eG (ae (aP aR (pv 7) ah (λ_ _=>rfl)) ag)) (aJ r e.m rfl aK (ae (pv 0) (ae (pv 1) (ae ah ag))))) ag)))) (aj (aF (i:=7) c7.nd rfl (bY rfl) (aJ AE e.m rfl aK (ae (pv 4) (ae (pv 5) (ae (pv 3) ag))))))) aO) (ai (aF (i:=8) c7.nd rfl (bY rfl) (fA Ga rfl M.YY Uc (ae (pv 3) ag))) (ai (aF (i:=9) c7.nd rfl (bY rfl) (aJ lV e.m rfl aK (ae (pv 4) (ae (pv 5) (ae (pv 8) ag))))) (ai (ba (L2.PW.pt (kW (pq (gL (aJ yO e.m rfl aK (ae (pv 9) (ae (pv 7) ag))))) (j1 (aI (aac hu) (pv 8) (pv 3) (aQ _))))) (aj (ay AQ)) aO) (ai (i7 (lx PySem.F.plainAttrs_list PySem.F.slot_list_append PySem.F.type_list_append fj (aP aR (pv 9) ah (λ_ _=>rfl)) (ae (av (ae (av ag) (ae ao ag))) ag))) (ai (aF (i:=10) c7.nd rfl (bY rfl) (aJ lV e.m rfl aK (ae (pv 4) (ae (pv 5) (ae (pv 8) ag))))) (ai (aF (i:=11) c7.nd rfl (bY rfl) (fA jE rfl M.AY wR (ae (aP aR (pv 10) ah (λ_ _=>rfl)) ag))) (ai (i7 (aJ lV e.m rfl aK (ae (av (ae ao (ae (av (ae ao (ae (av (ae ao ag)) (ae (av (ae ao ag)) (ae (av (ae ao ag)) ag))))) ag))) (ae ah (ae (pv 8) ag))))) (aj (ay (GY (aJ yO e.m rfl aK (ae (pv 10) (ae (pv 7) ag))) (xA (gd (L5 hu) (aP aR (pv 10) ah (λ_ _=>rfl)) (pv 11) (aQ _)))))))))))))))))))))))),?_⟩;try dsimp only[gu,cH]
 refine MU ?_;intro _ _ _ _ _ _;refine⟨(cN rfl),λp hp=>?_⟩;have T0:=NL hS hlen hp;have hT0:=hT.mono (aq hp (.lst [V.int 0]));generalize upd H p (.lst [V.int 0])=H0 at T0 hT0⊢;refine⟨_,rfl,_,rfl,a,p,ns,0,rfl,T0,(by decide),λc x y z H1 l1 l2 l3 hc x1 h1=>?_⟩;have g1:Sg K a p c ns H1 (0+4):=⟨T0.next x1 h1 (by decide),x,y,z,l1,l2,l3,hc⟩;have hT1:=hT0.sx x1 T0.gh;refine⟨_,rfl,_,rfl,_,rfl,a,p,c,ns,0+4,rfl,g1,(by decide),λb aH H2 i2 hb0 hb lk B2 x2 g2 lo2 hi2=>?_⟩;have hT2:=hT1.sx x2 g1.T.gh;have nb:b≠p:=λz=>by rw[z,g2.T.gh]at hb;cases hb
 refine⟨_,rfl,_,rfl,_,rfl,_,rfl,a,p,ns,i2,5,rfl,g2.T,(by lia),(by decide),λwd H3 w0 w1 x3 h3=>?_⟩;have g3:=g2.next x3 h3 (by lia);refine⟨_,_,rfl,rfl,(cN rfl),λp4 e4=>?_⟩;have t4:=aq e4 (.lst [V.int 0, .int 3, .int 90]);have g4:=g3.mono t4;have h4:(upd H3 p4 (.lst [V.int 0, .int 3, .int 90])) p4=some (.lst [V.int 0, .int 3, .int 90]):=ak;have np4:p4≠p:=λz=>by rw[z,g3.T.gh]at e4;cases e4
 have x4:=x3.trans t4.x;generalize upd H3 p4 (.lst [V.int 0, .int 3, .int 90])=H4 at t4 g4 h4 x4⊢;refine⟨_,rfl,_,rfl,a,p,ns,i2+1,3,rfl,g4.T,(by lia),(by decide),λwz H5 z0 z1 x5 h5=>?_⟩;have g5:=g4.next x5 h5 (by lia);obtain⟨near,acg,n0,n1⟩:∃near:Int,lP [V.int 0, .int 3, .int 90] wz=some (.int near)/\0<=near/\near<=90:=by
  have :wz=0\/wz=1\/wz=2:=by lia
  rcases this with rfl|rfl|rfl;·exact⟨0,rfl,by decide,by decide⟩
  ·exact⟨3,rfl,by decide,by decide⟩
  ·exact⟨90,rfl,by decide,by decide⟩
 refine⟨p4,_,_,_,rfl,rfl,bH.of (x5 _ _ np4 h4),acg,?_⟩;refine⟨_,rfl,a,p,c,ns,i2+1+1,1+wd,near,rfl,g5,(by lia),(by lia),(by lia),n0,n1,λk d v H6 i6 o=>?_⟩;have o1:=o.lo;have o2:=o.hi;refine⟨_,rfl,_,rfl,a,p,ns,i6,13,rfl,o.g.T,(by lia),(by decide),λf7 H7 f70 f71 x7 h7=>?_⟩;have g7:=o.g.next x7 h7 (by lia);have r7:=o.g.rep x7 o.r;obtain⟨f7,rfl⟩:∃k:Nat,f7=(k:Int):=⟨f7.toNat,by lia⟩;have x27:=x4.trans (x5.trans (o.sx.trans x7));refine⟨λC H'=>∃(fl:Nat)(i:Int),C=[some (.ref a),some (.ref p),some (.ref c),some (.ref b),some v,some (.int (fl:Nat)),none,none,none,none,none,none]/\fl<=500/\bx p H2 H'/\Rep H' d v/\Sg K a p c ns H' i/\i<=2^40,?_,?_⟩;·refine⟨_,rfl,_,rfl,a,p,ns,i6+1,3,rfl,g7.T,(by lia),(by decide),λw8 H8 _ _ x8 h8=>⟨rfl,_,rfl,?_⟩⟩;have g8:=g7.next x8 h8 (by lia);have r8:=g7.rep x8 r7;have x28:=x27.trans x8;have mP:∀H',aM H8 H'->∃(fl:Nat)(i:Int),([some (.ref a),some (.ref p),some (.ref c),some (.ref b),some v,some (.int (f7:Nat)),none,none,none,none,none,none]:L2.St)=[some (.ref a),some (.ref p),some (.ref c),some (.ref b),some v,some (.int (fl:Nat)),none,none,none,none,none,none]/\fl<=500/\bx p H2 H'/\Rep H' d v/\Sg K a p c ns H' i/\i<=2^40:=λH' s'=>⟨f7,i6+1+1,rfl,by lia,x28.trans s'.x,r8.mono s',g8.mono s',by lia⟩;refine aY (λ_=>?_) (λ_=>mP H8 (aM.refl _));refine⟨_,rfl,d,v,rfl,r8,⟨⟨k,o.wf⟩,by have :=o.dp;lia,eB _⟩,λq9 c9 H9 s9 _ _ h9=>⟨q9,_,_,_,rfl,rfl,bS.of h9,aE (j:=0) rfl,_,_,rfl,rfl,_,rfl,aY (λ_=>?_) (λ_=>mP H9 s9)⟩⟩;have W:=g8.mono s9;refine⟨_,rfl,_,rfl,a,p,ns,i6+1+1,61,rfl,W.T,(by lia),(by decide),λf10 YW f0 f1 Y_ h10=>?_⟩;obtain⟨f10,rfl⟩:∃k:Nat,f10=(k:Int):=⟨f10.toNat,by lia⟩;exact⟨f10,i6+1+1+1,rfl,by lia,x28.trans (s9.x.trans Y_),W.rep Y_ (r8.mono s9),W.next Y_ h10 (by lia),by lia⟩
 rintro C H9⟨fl,i9,rfl,SV,x9,r9,W,hi9⟩;have i90:=W.T.i0;refine⟨_,rfl,_,rfl,_,rfl,a,p,c,ns,i9,k,d,v,rfl,W,(by lia),r9,o.wf,o.dp,o.kn,λk10 d10 v10 YW i10 u=>?_⟩;have o3:=u.lo;have o4:=u.hi;have Y_:=x9.trans u.sx;clear x27 g7 r7 x7 h7 o o1 o2 g5 x5 h5 x4 t4 g4 h4 x3 h3 g3 W x9 r9;refine⟨λC H'=>∃(fl:Nat)(d:KM.D)(v:V)(i:Int),C=[some (.ref a),some (.ref p),some (.ref c),some (.ref b),some v,some (.int (fl:Nat)),none,none,none,none,none,none]/\fl<=500/\bx p H2 H'/\Rep H' d v/\Td d/\Sg K a p c ns H' i/\i<=2^41,?_,?_⟩;·refine⟨_,rfl,_,rfl,a,p,ns,i10,4,rfl,u.g.T,(by lia),(by decide),λw11 H11 _ _ J h11=>⟨rfl,_,rfl,?_⟩⟩;have U:=u.g.next J h11 (by lia);refine aY (λ_=>?_) (λ_=>⟨fl,d10,v10,i10+1,rfl,SV,Y_.trans J,u.g.rep J u.r,⟨⟨_,u.wf⟩,u.dp,u.kn⟩,U,by lia⟩);exact⟨_,rfl,_,rfl,a,p,c,ns,i10+1,rfl,U,(by lia),λd12 v12 H12 r12 ae5 x12 g12=>⟨60,d12,v12,_,rfl,by decide,Y_.trans (J.trans x12),r12,ae5,g12,by lia⟩⟩
 rintro C H11⟨fl,d,v,i11,rfl,SV,J,r11,aeJ,U,afS⟩;have afW:=U.T.i0;have B11:=B2.sx J (cf g2.T.gh);have acU:=hT2.sx J g2.T.gh;have abJ:=J _ _ nb hb;obtain⟨B,br,bb⟩:=Et B11;have G11:Go K a p c b T1 T2 ns H11 B aH d v i11:=⟨r11,aeJ,⟨abJ,br,bb,acU⟩,B11,U,by lia⟩;clear Y_ u o3 o4;refine⟨λC H'=>∃(fl:Nat)(B:Str->KM.D)(aH:List (Key×V))(d:KM.D)(v:V)(i:Int)(mv:Option V),C=[some (.ref a),some (.ref p),some (.ref c),some (.ref b),some v,some (.int (fl:Nat)),mv,none,none,none,none,none]/\fl<=500/\Go K a p c b T1 T2 ns H' B aH d v i/\i<=2^42,?_,?_⟩
 ·refine⟨_,rfl,_,rfl,a,p,ns,i11,7,rfl,U.T,(by lia),(by decide),λw12 H12 _ _ x12 h12=>⟨rfl,_,rfl,?_⟩⟩;have l:=G11.next x12 h12 (by lia);refine aY (λ_=>?_) (λ_=>⟨fl,B,aH,d,v,i11+1,none,rfl,SV,l,by lia⟩);refine⟨_,rfl,_,rfl,a,p,ns,i11+1,130,rfl,l.g.T,(by lia),(by decide),λm H13 m0 m1 x13 h13=>?_⟩;have N:=l.next x13 h13 (by lia);refine⟨_,rfl,_,rfl,a,p,ns,i11+1+1,5,rfl,N.g.T,(by lia),(by decide),λz O _ _ x14 h14=>⟨rfl, .inr ⟨_,rfl,_,_,rfl,rfl,?_,_,_,rfl,rfl,?_⟩⟩⟩;·exact .inl ⟨by decide,by decide⟩
  have I:=N.next x14 h14 (by lia);obtain⟨S,em,hm⟩:∃S:Nat,m+300*(if decide (V.int z=V.int 0)=true then(1:Int)else 0)=(S:Int)/\S<=600:=by refine⟨(m+300*(if decide (V.int z=V.int 0)=true then(1:Int)else 0)).toNat,?_,?_⟩<;>split<;>lia
  show j4 6 (V.int (m+300*(if decide (V.int z=V.int 0)=true then(1:Int)else 0))) _ _ _;rw[em];refine⟨(cN rfl),λq1 e1=>⟨(cN rfl),λq2 e2=>⟨(cN rfl),λq3 e3=>?_⟩⟩⟩;have u1:=aq e1 (.tup [V.str "nat"]);have u2:=aq e2 (.tup [V.str "zero"]);have u3:=aq e3 (.tup [V.ref q1, .ref q2]);have f1:=u3 _ _ (u2 _ _ (show(upd O q1 (.tup [V.str "nat"])) q1=some (.tup [V.str "nat"])from ak));have f2:=u3 _ _ (show(upd (upd O q1 (.tup [V.str "nat"])) q2 (.tup [V.str "zero"])) q2=some (.tup [V.str "zero"])from ak);have f3:(upd (upd (upd O q1 (.tup [V.str "nat"])) q2 (.tup [V.str "zero"])) q3 (.tup [V.ref q1, .ref q2])) q3=some (.tup [V.ref q1, .ref q2]):=ak;have g:=I.mono (u1.trans (u2.trans u3));generalize upd (upd (upd O q1 (.tup [V.str "nat"])) q2 (.tup [V.str "zero"])) q3 (.tup [V.ref q1, .ref q2])=H15 at f1 f2 f3 g⊢;have US:=g.bs.hb;refine⟨_,rfl,_,rfl,_,rfl,S,b,aH,rfl,hm,US,g.bk,lk,λX x D XY B16 l16 x16 hx=>⟨b,_,rfl,FW.k (k:=Sum.inr x) XY (by have :X.length<=1000:=B16.len;exact Nat.lt_of_le_of_lt this (by decide)),?_⟩⟩;have xu:bx b D (upd D b (.dK (putK X (Sum.inr x) (.ref q3)))):=bx.upd _;have nt:∀{q:Addr}{vs:List V},H15 q=some (.tup vs)->D q=some (.tup vs):=λ{q vs}h=>x16 _ _ (λz=>by rw[z,US]at h;cases h) h;have bV:Sl D (.ref q3):=⟨q3, .tup [.str "nat"], .tup [.str "zero"],_,_,rfl,nt f3,⟨q1,_,rfl,nt f1,Sk ir r0⟩,jV,⟨q2,_,rfl,nt f2,Sk ir r0⟩,fD,by simp[depth,aD],by simp[depth,aD],by simp[aC,aL],by simp[aC,aL]⟩;have abV:(upd D b (.dK (putK X (Sum.inr x) (.ref q3)))) b=some (.dK (putK X (Sum.inr x) (.ref q3))):=ak;have B17:Bk (upd D b (.dK (putK X (Sum.inr x) (.ref q3)))) (putK X (Sum.inr x) (.ref q3)):=⟨c8 og (by lia),λk' v' S=>by
   rcases Bg S with S|rfl;·exact(B16.each k' v' S).sx xu (dS XY)
   ·exact bV.sx xu (dS XY)⟩;have x17:=x16.trans xu;have g17:=g.g.sxb US x17;have T17:=g.bs.tb.sxb x17 US;generalize upd D b (.dK (putK X (Sum.inr x) (.ref q3)))=H17 at abV B17 g17 T17⊢;obtain⟨B',br',bb'⟩:=Et B17;refine⟨(cN rfl),λq4 e4=>?_⟩;have v4:=aq e4 (.tup [V.str "name", .str "qaa"]);exact⟨500,B',_, .tup [.str "name", .str "qaa"], .ref q4,i11+1+1+1,_,rfl,bK _,⟨eC e4 (Sk ir (Sk ir r0)),⟨⟨false,Bb rfl⟩,by simp[depth,aD],by simp[aC,aL]⟩,⟨v4 _ _ abV,br'.mono v4,bb',T17.mono v4⟩,B17.mono v4,g17.mono v4,by lia⟩,by lia⟩
 clear G11 U r11 J B11 acU abJ br bb;rintro C H12⟨fl,B,aH,d,v,i12,mv,rfl,SV,l,afR⟩;obtain⟨res,rs,run,lr,tdr⟩:=GA l.bs.bb fl d l.td;refine⟨_,rfl,_,rfl,_,rfl,B,d,v,fl,b,aH,rs,res,rfl,l.rd,l.td,l.bs,run,by lia,λG ld Y n H13 FG abC A13=>?_⟩;have N:=l.mono FG;have afV:=N.g.T.i0;have nld:ld≠p:=λz=>by have :=l.g.T.gh;rw[<-z,abC]at this;cases this
 refine⟨λC H'=>∃(fl:Nat)(res:Out)(rs:List qU)(G ld:Addr)(Y:V)(n:List V)(i:Int),C=[some (.ref a),some (.ref p),some (.ref c),some (.ref b),some v,some (.int (fl:Nat)),mv,some (.ref G),none,none,none,none]/\Run (e9 aH) B res fl rs d/\rs.length<=1000/\(∀d',res= .ok d'->Td d')/\ND H' res rs G ld Y n/\Go K a p c b T1 T2 ns H' B aH d v i,?_,?_⟩
 ·refine⟨_,rfl,_,rfl,a,p,ns,i12,4,rfl,N.g.T,(by lia),(by decide),λw14 O _ _ x14 h14=>⟨rfl,_,rfl,?_⟩⟩;have L:=A13.sx x14 N.g.T.gh nld;have I:=N.next x14 h14 (by lia);refine aY (λ_=>?_) (λ_=>⟨fl,res,rs,G,ld,Y,n,i12+1,rfl,run,by lia,tdr,L,I⟩);refine⟨_,rfl,G,_,_,_,rfl,rfl,bS.of L.hp,aE (j:=0) rfl,rfl,_,rfl,?_⟩;refine aY (λ_=>?_) (λ_=>⟨fl,res,rs,G,ld,Y,n,i12+1,rfl,run,by lia,tdr,L,I⟩);refine⟨_,rfl,G,_,_,_,rfl,rfl,bS.of L.hp,aE (j:=2) rfl,ld,n,rfl, .inl (bH.of L.hl),_,rfl,_,rfl,a,p,ns,i12+1,2,rfl,I.g.T,(by lia),(by decide),λz H15 z0 z1 x15 h15=>⟨_,_,rfl,rfl,_,_,rfl,?_⟩⟩;have g:=I.next x15 h15 (by lia);have afO:=L.len;obtain⟨f',ef,hf⟩:∃f':Nat,(if((n.length:Nat):Int)-z>0 then((n.length:Nat):Int)-z else 0)=(f':Int)/\f'<=1000:=by refine⟨(if((n.length:Nat):Int)-z>0 then((n.length:Nat):Int)-z else 0).toNat,?_,?_⟩<;>split<;>lia
  show j4 5 (V.int (if((n.length:Nat):Int)-z>0 then((n.length:Nat):Int)-z else 0)) _ _ _;rw[ef];obtain⟨Tn,FH,run',lr',ae4⟩:=GA l.bs.bb f' d l.td;exact⟨_,rfl,_,rfl,_,rfl,B,d,v,f',b,aH,FH,Tn,rfl,g.rd,g.td,g.bs,run',by lia,λpd' ld' ud' aey D s16 acH T=>⟨f',Tn,FH,pd',ld',ud',aey,_,rfl,run',by lia,ae4,T,g.mono s16⟩⟩
 clear A13 N run lr tdr abC FG l;rintro C O⟨fl,res,rs,G,ld,Y,n,i14,rfl,run,Yc,tdr,L,I⟩;refine⟨_,rfl,b,aH,rfl,I.bs.hb,λR ebh=>?_⟩;have u1:=aq ebh (.dK aH);have hbh:(upd O R (.dK aH)) R=some (.dK aH):=ak;have g:=I.mono u1;have A15:=L.mono u1;generalize upd O R (.dK aH)=H15 at u1 hbh g A15⊢;have S15:Bs H15 B R aH T1 T2:=⟨hbh,g.bs.br,g.bs.bb,g.bs.tb⟩;refine⟨_,rfl,_,rfl,_,rfl,B,d,v,fl,R,aH,rs,res,rfl,g.rd,g.td,S15,run,Yc,λpf lf uf usf D s16 acH T=>?_⟩;have D16:=A15.mono s16;have G16:=g.mono s16;have S16:=S15.mono s16;have nlf:ld≠lf:=λz=>by have :=A15.hl;rw[z,acH]at this;cases this
 refine⟨_,rfl,_,rfl,res,rs,pf,lf,G,ld,uf,Y,usf,n,rfl,T,D16,tdr,_,rfl,jP ?_⟩;refine⟨_,rfl,_,rfl,R,b,aH,rfl,rfl,S16.hb,G16.bs.hb,(λk' v' hm=>by obtain⟨q',_,_,_,_,e',_⟩:=G16.bk.each k' v' hm;exact⟨q',e'⟩),_,rfl,jP ?_⟩;refine⟨_,rfl,pf,_,_,_,rfl,rfl,bS.of T.hp,aE (j:=2) rfl, .inl ⟨rfl,_,bH.of T.hl⟩,(cN rfl),λq1 e1=>⟨(cN rfl),λq2 e2=>?_⟩⟩;have t1:=aq e1 (.tup []);have t2:=aq e2 (.tup [V.ref q1, .str "fun"]);have s17:=t1.trans t2;generalize upd (upd D q1 (.tup [])) q2 (.tup [V.ref q1, .str "fun"])=H17 at s17⊢;have T5:=s17 _ _ T.hl;have afN:=T.len;refine⟨lf,usf,_,rfl,rfl,T5,(by rw[sizeLine_eq];lia),?_⟩;have x18:bx lf H17 (upd H17 lf (.lst (usf++[V.ref q2]))):=bx.upd _;have D18:=(D16.mono s17).sx x18 T5 nlf;have S18:=(S16.mono s17).sx x18 T5;have r18:=(G16.rd.mono s17).gU x18 (cf T5);generalize upd H17 lf (.lst (usf++[V.ref q2]))=H18 at D18 S18 r18⊢;refine⟨_,rfl,_,rfl,_,rfl,B,d,v,fl,R,aH,rs,res,rfl,r18,G16.td,S18,run,Yc,λps ls us Z H19 s19 afL A19=>?_⟩;refine⟨_,rfl,ps,_,_,_,rfl,rfl,bS.of A19.hp,aE (j:=2) rfl,ls,Z,rfl, .inl (bH.of A19.hl),λlk elk=>?_⟩;have u20:=aq elk (.lst Z);have abu:(upd H19 lk (.lst Z)) lk=some (.lst Z):=ak;have A20:=A19.mono u20;have D20:=(D18.mono s19).mono u20;have S20:=(S18.mono s19).mono u20;generalize upd H19 lk (.lst Z)=H20 at abu A20 D20 S20⊢;dsimp only[j4];refine abQ (d:= .tup [.str "first", .tup [.str "pair", .tup [.str "nat"], .tup [.str "zero"], .tup [.str "zero"]]]) ?_ λv21 H21 s21 r21=>?_;·repeat' first|exact eE|exact OQ|exact dD|apply bW|apply eK|(simp only[cF,e_];decide)
 have abR:Td (.tup [.str "first", .tup [.str "pair", .tup [.str "nat"], .tup [.str "zero"], .tup [.str "zero"]]]):=⟨⟨false,yr (Bl jV fD fD)⟩,by simp[depth,aD],by simp[aC,aL]⟩;obtain⟨Tn,FH,run',lr',_⟩:=GA S20.bb 3 _ abR;refine⟨_,rfl,B,_,v21,3,R,aH,FH,Tn,rfl,r21,abR,S20.mono s21,run',by lia,λp4 l4 u4 us4 H22 s22 afP A22=>?_⟩;have RM:=s21.trans s22;have A23:=A20.mono RM;refine⟨_,rfl,_,rfl,res,rs,ps,ls,G,ld,us,Y,Z,n,rfl,A23,D20.mono RM,tdr,_,rfl,aY (λ_=>?_) (λc=>absurd rfl c)⟩;obtain⟨ds,rr,_⟩:=A23.rr;exact⟨_,rfl,ps,_,_,_,rfl,rfl,bS.of A23.hp,aE (j:=2) rfl,_,rfl,ls,lk,Z,rfl,rfl,bH.of A23.hl,bH.of (RM _ _ abu),Jp rr,q _⟩
end K23
end
section
namespace K23
open PySem L2 L3 KM
structure Txt(K:PySem.W.Frag)(mg:Str->Option Value)(t:wY):Prop where
 M:Mg mg t
 Ec:Df K mg "is_number" hU ["value"]
 M7:Df K mg "is_vast" iK ["value"]
 M6:Df K mg "kids_of" kJ ["thing"]
 GO:Df K mg "binds_of" gJ ["thing"]
 yv:Df K mg "top_variable" c_ ["thing"]
 Mu:Df K mg "bounded" kG ["thing"]
 Nb:Df K mg "rebuilt" kM ["thing","kids"]
 NW:Df K mg "kid_at" nV ["thing","number"]
 FV:Df K mg "at_place" jB ["thing","place"]
 Bf:Df K mg "changed_at" eX ["thing","place","new"]
 MN:Df K mg "with_at" kL ["thing","place","new"]
 qB:Df K mg "with_free" eM ["thing","binders","change"]
 Ow:Df K mg "raised" km ["thing","by","low"]
 ON:Df K mg "put_in" j6 ["thing","other","at"]
 ME:Df K mg "rule_of" kD ["thing","book"]
 Cn:Df K mg "after_next" gg ["thing"]
 BU:Df K mg "after_rule" f_ ["thing","rule","book"]
 M4:Df K mg "stepped" kK ["thing","place","book"]
 Ba:Df K mg "first_step" eZ ["thing","book"]
 Pm:Df K mg "normal" mH ["thing","fuel","book"]
 GF:Df K mg "_law_draw" jh C4
 Fz:Df K mg "_law_named" ik ["_law_word_here"]
 Hw:Df K mg "_law_pool" fk ["_law_script","_law_tape"]
 Hz:Df K mg "_law_leaf" jz ["_law_script","_law_tape","_law_near","_law_pool_here"]
 GP:Df K mg "_law_kind" gG eN
 MI:Df K mg "_law_fun" iS eN
 GV:Df K mg "_law_pair" gS eN
 GC:Df K mg "_law_like" gA eN
 A8:Df K mg "_law_number" eV eN
 A6:Df K mg "_law_parted" eY MQ
 Dj:Df K mg "_law_still" fW MQ
 Gh:Df K mg "_law_term" gO eN
 Hu:Df K mg "_law_kids" iZ ["_law_thing_here"]
 j_:Df K mg "_law_measured" dM ["_law_thing_here"]
 pU:Df K mg "_law_great" hV ["_law_thing_here"]
 ED:Df K mg "_law_thing" ic eN
 F3:Df K mg "_law_book" jH ["_law_script","_law_tape","_law_pool_here"]
 FT:Df K mg "_law_rule" jt ["_law_thing_here","_law_book_here"]
 Gk:Df K mg "_law_rows" iW ["_law_thing_here","_law_book_here"]
 Gg:Df K mg "_law_word" jy ["_law_e"]
 Dv:Df K mg "_law_chain" ia ["_law_many","_law_book_here"]
 zG:Df K mg "_law_wrapped" fE ["_law_script","_law_tape","_law_thing_here"]
 Eb:Df K mg "_law_under" ie ["_law_script","_law_tape","_law_thing_here"]
 MG:Df K mg "_law_sum" kP ["_law_script","_law_tape"]
 MO:Df K mg "_law_due" iE ["_law_thing_here","_law_fuel","_law_book_here"]
 Gi:Df K mg "_law_told" ji ["_law_thing_here","_law_fuel","_law_book_here"]
 G1:Df K mg "_law_same" iY ["_law_found","_law_due_here"]
 acf:Df K mg "law" J6 ["_law_script"]
 F7:∃as,KD K t.ym [("nat",[]),("none",[]),("all",[.str "kind", .str "kind"]),("some",[.str "kind", .str "kind"]),("same",[.str "kind", .str "term", .str "term"]),("var",[]),("fun",[.str "kind", .str "term"]),("app",[.str "term", .str "term"]),("zero",[]),("next",[.str "term"]),("rec",[.str "kind", .str "term", .str "term", .str "term"]),("like",[.str "kind", .str "term"]),("carry",[.str "kind", .str "term", .str "term"]),("never",[.str "kind", .str "term"]),("pair",[.str "kind", .str "term", .str "term"]),("first",[.str "term"]),("second",[.str "term"]),("name",[])] as
 zL:lZ K t.j2 [("all", .int 1),("some", .int 1),("fun", .int 1),("rec", .int 0),("carry", .int 0)]
 S5:Rul K t.JN
 X:Ek K t
theorem txt_mk{K:PySem.W.Frag}{h:Heap}{mg:Str->Option Value}(X:K.In h)(G:h.Ns mainGlobals mg){zp:Tok}{A7:Tok}{pF:Tok}{s:Addr}{F:Array DictEntry}{Fe:Nat}{I S T U V W Y Z pW qD J L M N O P Q R:Addr}{AX:Option Addr}{nH:Array Value}{BR:Nat}{Cp:Array (Option Value)}{Cr:Option Addr}{nO:Array Value}{Bx:Nat}{Bo:Array (Option Value)}{Bq:Option Addr}{nZ:Array Value}{Ct:Nat}{CP:Array (Option Value)}{B0:Option Addr}{mD:Array Value}{Bp:Nat}{BV:Array (Option Value)}{CD:Option Addr}{mn:Array Value}{Br:Nat}{Cf:Array (Option Value)}{Cq:Option Addr}{mS:Array Value}{CW:Nat}{Bv:Array (Option Value)}{CU:Option Addr}{m_:Array Value}{CH:Nat}{Bw:Array (Option Value)}{CK:Option Addr}{mC:Array Value}{BK:Nat}{B8:Array (Option Value)}{De:Option Addr}{qv:Array Value}{Fu:Nat}{EE:Array (Option Value)}{D_:Option Addr}{pY:Array Value}{EA:Nat}{D7:Array (Option Value)}{C9:Option Addr}{pV:Array Value}{EH:Nat}{DE:Array (Option Value)}{Fj:Option Addr}{pQ:Array Value}{ER:Nat}{Dq:Array (Option Value)}{Es:Option Addr}{qh:Array Value}{EM:Nat}{Fm:Array (Option Value)}{DJ:Option Addr}{pR:Array Value}{DL:Nat}{EB:Array (Option Value)}{Ea:Option Addr}{pL:Array Value}{Fq:Nat}{Fc:Array (Option Value)}{Fg:Option Addr}{p_:Array Value}{Fv:Nat}{E8:Array (Option Value)}{En:Option Addr}{qb:Array Value}{DK:Nat}{Eg:Array (Option Value)}{E_:Option Addr}{pI:Array Value}{DH:Nat}{Dw:Array (Option Value)}{r:Addr}{jR:Array DictEntry}{xU:Nat}{C:Addr}{H:Array DictEntry}{Pu:Nat}{g k m o q:Addr}{f:Addr}{Pe:Option Addr}{DV:Array Value}{Qw:Nat}{RK:Array (Option Value)}{Hx:Option Addr}{xT:Array Value}{G5:Nat}{Gq:Array (Option Value)}{i j:Addr}{OJ:Option Addr}{Di:Array Value}{RR:Nat}{Pp:Array (Option Value)}{F5:Option Addr}{yD:Array Value}{G_:Nat}{Hg:Array (Option Value)}{GN:Option Addr}{xR:Array Value}{Gb:Nat}{Hq:Array (Option Value)}{l:Addr}{Qb:Option Addr}{DP:Array Value}{OA:Nat}{Q6:Array (Option Value)}{GX:Option Addr}{yK:Array Value}{FJ:Nat}{Gw:Array (Option Value)}{n:Addr}{Oh:Option Addr}{D8:Array Value}{RN:Nat}{Og:Array (Option Value)}{GG:Option Addr}{yo:Array Value}{Gv:Nat}{Gj:Array (Option Value)}{p:Addr}{OD:Option Addr}{El:Array Value}{Qu:Nat}{Oo:Array (Option Value)}{GW:Option Addr}{yl:Array Value}{GQ:Nat}{Hm:Array (Option Value)}{c:Addr}{a:Addr}{d:Addr}{e:Addr}{b:Addr}{w:Addr}{u:Addr}{y:Addr}{B:Addr}{A:Addr}{E:Addr}{v:Addr}{x:Addr}{D:Addr}{z:Addr}(a0:cA K "is_number" hU)(a1:cA K "is_vast" iK)(a2:cA K "kids_of" kJ)(a3:cA K "binds_of" gJ)(a4:cA K "top_variable" c_)(a5:cA K "bounded" kG)(a6:cA K "rebuilt" kM)(a7:cA K "kid_at" nV)(a8:cA K "at_place" jB)(a9:cA K "changed_at" eX)(a10:cA K "with_at" kL)(a11:cA K "with_free" eM)(a12:cA K "raised" km)(a13:cA K "put_in" j6)(a14:cA K "rule_of" kD)(a15:cA K "after_next" gg)(a16:cA K "after_rule" f_)(a17:cA K "stepped" kK)(a18:cA K "first_step" eZ)(a19:cA K "normal" mH)(a20:cA K "_law_draw" jh)(a21:cA K "_law_named" ik)(a22:cA K "_law_pool" fk)(a23:cA K "_law_leaf" jz)(a24:cA K "_law_kind" gG)(a25:cA K "_law_fun" iS)(a26:cA K "_law_pair" gS)(a27:cA K "_law_like" gA)(a28:cA K "_law_number" eV)(a29:cA K "_law_parted" eY)(a30:cA K "_law_still" fW)(a31:cA K "_law_term" gO)(a32:cA K "_law_kids" iZ)(a33:cA K "_law_measured" dM)(a34:cA K "_law_great" hV)(a35:cA K "_law_thing" ic)(a36:cA K "_law_book" jH)(a37:cA K "_law_rule" jt)(a38:cA K "_law_rows" iW)(a39:cA K "_law_word" jy)(a40:cA K "_law_chain" ia)(a41:cA K "_law_wrapped" fE)(a42:cA K "_law_under" ie)(a43:cA K "_law_sum" kP)(a44:cA K "_law_due" iE)(a45:cA K "_law_told" ji)(a46:cA K "_law_same" iY)(a47:cA K "law" J6)(z_ValueError:PySem.W.nsIn K mainGlobals "ValueError"=some none)(z_bool:PySem.W.nsIn K mainGlobals "bool"=some none)(z_dict:PySem.W.nsIn K mainGlobals "dict"=some none)(z_enumerate:PySem.W.nsIn K mainGlobals "enumerate"=some none)(z_int:PySem.W.nsIn K mainGlobals "int"=some none)(z_isinstance:PySem.W.nsIn K mainGlobals "isinstance"=some none)(z_len:PySem.W.nsIn K mainGlobals "len"=some none)(z_list:PySem.W.nsIn K mainGlobals "list"=some none)(z_max:PySem.W.nsIn K mainGlobals "max"=some none)(z_min:PySem.W.nsIn K mainGlobals "min"=some none)(z_range:PySem.W.nsIn K mainGlobals "range"=some none)(z_tuple:PySem.W.nsIn K mainGlobals "tuple"=some none)(z_zip:PySem.W.nsIn K mainGlobals "zip"=some none)(g_MOST_KNOTS:PySem.W.nsIn K mainGlobals "MOST_KNOTS"=some (some (.int 600 zp)))(g_MOST_DEEP:PySem.W.nsIn K mainGlobals "MOST_DEEP"=some (some (.int 40 A7)))(g_MOST_VARIABLE:PySem.W.nsIn K mainGlobals "MOST_VARIABLE"=some (some (.int 99 pF)))(g_KIDS_DUE:PySem.W.nsIn K mainGlobals "KIDS_DUE"=some (some (.ref s)))(lk_KIDS_DUE:K.lookup s=some ⟨.type "dict",none, .dict F Fe,#[]⟩)(sy_KIDS_DUE:(s==sysModules)=false)(ks_KIDS_DUE:gj F.toList ["nat","none","all","some","same","var","fun","app","zero","next","rec","like","carry","never","pair","first","second","name"]=true)(rf_KIDS_DUE:refsOf F.toList=[I,S,T,U,V,W,Y,Z,pW,qD,J,L,M,N,O,P,Q,R])(u0_KIDS_DUE:K.lookup I=some ⟨.type "tuple",E_, .seq pI DH,Dw⟩)(v0_KIDS_DUE:cg [] pI=true)(u1_KIDS_DUE:K.lookup S=some ⟨.type "tuple",En, .seq qb DK,Eg⟩)(v1_KIDS_DUE:cg [] qb=true)(u2_KIDS_DUE:K.lookup T=some ⟨.type "tuple",Fg, .seq p_ Fv,E8⟩)(v2_KIDS_DUE:cg [.str "kind", .str "kind"] p_=true)(u3_KIDS_DUE:K.lookup U=some ⟨.type "tuple",Ea, .seq pL Fq,Fc⟩)(v3_KIDS_DUE:cg [.str "kind", .str "kind"] pL=true)(u4_KIDS_DUE:K.lookup V=some ⟨.type "tuple",DJ, .seq pR DL,EB⟩)(v4_KIDS_DUE:cg [.str "kind", .str "term", .str "term"] pR=true)(u5_KIDS_DUE:K.lookup W=some ⟨.type "tuple",Es, .seq qh EM,Fm⟩)(v5_KIDS_DUE:cg [] qh=true)(u6_KIDS_DUE:K.lookup Y=some ⟨.type "tuple",Fj, .seq pQ ER,Dq⟩)(v6_KIDS_DUE:cg [.str "kind", .str "term"] pQ=true)(u7_KIDS_DUE:K.lookup Z=some ⟨.type "tuple",C9, .seq pV EH,DE⟩)(v7_KIDS_DUE:cg [.str "term", .str "term"] pV=true)(u8_KIDS_DUE:K.lookup pW=some ⟨.type "tuple",D_, .seq pY EA,D7⟩)(v8_KIDS_DUE:cg [] pY=true)(u9_KIDS_DUE:K.lookup qD=some ⟨.type "tuple",De, .seq qv Fu,EE⟩)(v9_KIDS_DUE:cg [.str "term"] qv=true)(u10_KIDS_DUE:K.lookup J=some ⟨.type "tuple",CK, .seq mC BK,B8⟩)(v10_KIDS_DUE:cg [.str "kind", .str "term", .str "term", .str "term"] mC=true)(u11_KIDS_DUE:K.lookup L=some ⟨.type "tuple",CU, .seq m_ CH,Bw⟩)(v11_KIDS_DUE:cg [.str "kind", .str "term"] m_=true)(u12_KIDS_DUE:K.lookup M=some ⟨.type "tuple",Cq, .seq mS CW,Bv⟩)(v12_KIDS_DUE:cg [.str "kind", .str "term", .str "term"] mS=true)(u13_KIDS_DUE:K.lookup N=some ⟨.type "tuple",CD, .seq mn Br,Cf⟩)(v13_KIDS_DUE:cg [.str "kind", .str "term"] mn=true)(u14_KIDS_DUE:K.lookup O=some ⟨.type "tuple",B0, .seq mD Bp,BV⟩)(v14_KIDS_DUE:cg [.str "kind", .str "term", .str "term"] mD=true)(u15_KIDS_DUE:K.lookup P=some ⟨.type "tuple",Bq, .seq nZ Ct,CP⟩)(v15_KIDS_DUE:cg [.str "term"] nZ=true)(u16_KIDS_DUE:K.lookup Q=some ⟨.type "tuple",Cr, .seq nO Bx,Bo⟩)(v16_KIDS_DUE:cg [.str "term"] nO=true)(u17_KIDS_DUE:K.lookup R=some ⟨.type "tuple",AX, .seq nH BR,Cp⟩)(v17_KIDS_DUE:cg [] nH=true)(g_BINDER_OVER:PySem.W.nsIn K mainGlobals "BINDER_OVER"=some (some (.ref r)))(lk_BINDER_OVER:K.lookup r=some ⟨.type "dict",none, .dict jR xU,#[]⟩)(sy_BINDER_OVER:(r==sysModules)=false)(vs_BINDER_OVER:jC jR.toList [("all",1),("some",1),("fun",1),("rec",0),("carry",0)]=true)(g_RULES:PySem.W.nsIn K mainGlobals "RULES"=some (some (.ref C)))(lk_RULES:K.lookup C=some ⟨.type "dict",none, .dict H Pu,#[]⟩)(sy_RULES:(C==sysModules)=false)(ks_RULES:gj H.toList ["app","rec","carry","first","second"]=true)(rf_RULES:refsOf H.toList=[g,k,m,o,q])(u0_RULES:K.lookup g=some ⟨.type "tuple",Pe, .seq DV Qw,RK⟩)(v0_RULES:DV.toList=[Value.ref f])(u0_0_RULES:K.lookup f=some ⟨.type "tuple",Hx, .seq xT G5,Gq⟩)(v0_0_RULES:cg [.int 1, .str "fun", .str "fun"] xT=true)(u1_RULES:K.lookup k=some ⟨.type "tuple",OJ, .seq Di RR,Pp⟩)(v1_RULES:Di.toList=[Value.ref i,Value.ref j])(u1_0_RULES:K.lookup i=some ⟨.type "tuple",F5, .seq yD G_,Hg⟩)(v1_0_RULES:cg [.int 4, .str "zero", .str "zero"] yD=true)(u1_1_RULES:K.lookup j=some ⟨.type "tuple",GN, .seq xR Gb,Hq⟩)(v1_1_RULES:cg [.int 4, .str "next", .str "next"] xR=true)(u2_RULES:K.lookup m=some ⟨.type "tuple",Qb, .seq DP OA,Q6⟩)(v2_RULES:DP.toList=[Value.ref l])(u2_0_RULES:K.lookup l=some ⟨.type "tuple",GX, .seq yK FJ,Gw⟩)(v2_0_RULES:cg [.int 3, .str "like", .str "like"] yK=true)(u3_RULES:K.lookup o=some ⟨.type "tuple",Oh, .seq D8 RN,Og⟩)(v3_RULES:D8.toList=[Value.ref n])(u3_0_RULES:K.lookup n=some ⟨.type "tuple",GG, .seq yo Gv,Gj⟩)(v3_0_RULES:cg [.int 1, .str "pair", .str "first"] yo=true)(u4_RULES:K.lookup q=some ⟨.type "tuple",OD, .seq El Qu,Oo⟩)(v4_RULES:El.toList=[Value.ref p])(u4_0_RULES:K.lookup p=some ⟨.type "tuple",GW, .seq yl GQ,Hm⟩)(v4_0_RULES:cg [.int 1, .str "pair", .str "second"] yl=true)(g_KeeperError:PySem.W.nsIn K mainGlobals "KeeperError"=some (some (.ref c)))(g_Great:PySem.W.nsIn K mainGlobals "Great"=some (some (.ref a)))(g_NoPlace:PySem.W.nsIn K mainGlobals "NoPlace"=some (some (.ref d)))(g_NoStep:PySem.W.nsIn K mainGlobals "NoStep"=some (some (.ref e)))(g_Dry:PySem.W.nsIn K mainGlobals "Dry"=some (some (.ref b)))(g_NoVariable:PySem.W.nsIn K mainGlobals "NoVariable"=some (some (.ref w)))(g_NoName:PySem.W.nsIn K mainGlobals "NoName"=some (some (.ref u)))(g_NotAll:PySem.W.nsIn K mainGlobals "NotAll"=some (some (.ref y)))(g_NotSome:PySem.W.nsIn K mainGlobals "NotSome"=some (some (.ref B)))(g_NotSame:PySem.W.nsIn K mainGlobals "NotSame"=some (some (.ref A)))(g_Unlike:PySem.W.nsIn K mainGlobals "Unlike"=some (some (.ref E)))(g_NoText:PySem.W.nsIn K mainGlobals "NoText"=some (some (.ref v)))(g_NoWord:PySem.W.nsIn K mainGlobals "NoWord"=some (some (.ref x)))(g_TwiceTold:PySem.W.nsIn K mainGlobals "TwiceTold"=some (some (.ref D)))(g_NotClosed:PySem.W.nsIn K mainGlobals "NotClosed"=some (some (.ref z)))(x_e0:PySem.W.excIn K a [.type "ValueError", .type "Exception", .type "BaseException", .type "object"] "ValueError.__new__"=true)(x_e1:PySem.W.excIn K d [.type "ValueError", .type "Exception", .type "BaseException", .type "object"] "ValueError.__new__"=true)(x_e2:PySem.W.excIn K e [.type "ValueError", .type "Exception", .type "BaseException", .type "object"] "ValueError.__new__"=true)(x_e3:PySem.W.excIn K c [.type "ValueError", .type "Exception", .type "BaseException", .type "object"] "ValueError.__new__"=true)(x_e4:PySem.W.excIn K b [.type "ValueError", .type "Exception", .type "BaseException", .type "object"] "ValueError.__new__"=true)(x_x0:PySem.W.subIn K (.ref a) (.ref a)=some true)(x_c01:PySem.W.findIn K (.ref a) "__getattribute__"=some (some (.builtin "BaseException.__getattribute__")))(x_c02:PySem.W.findIn K (.ref a) "__class__"=some (some (.builtin "object.__class__")))(x_c03:PySem.W.findIn K (.ref a) "__getattr__"=some none)(x_c04:PySem.W.mroIn K a (.type "object")=some true)(x_c05:PySem.W.mroIn K a (.type "BaseException")=some true)(x_c06:(PySem.W.clsIn K a).isSome=true)(x_s0:PySem.W.subIn K (.ref a) (.ref c)=some true)(x_v0:PySem.W.kitOne K (.ref a) (.type "ValueError")=some true)(x_k0_0:PySem.W.kitOne K (.ref a) (.ref a)=some true)(x_k0_1:PySem.W.kitOne K (.ref a) (.ref d)=some false)(x_k0_2:PySem.W.kitOne K (.ref a) (.ref e)=some false)(x_k0_3:PySem.W.kitOne K (.ref a) (.ref b)=some false)(x_a0:PySem.W.kitAny K (.ref a) [.ref w, .ref u, .ref y, .ref B, .ref A, .ref E, .ref v, .ref x, .ref D, .ref z]=some false)(x_c11:PySem.W.findIn K (.ref b) "__getattribute__"=some (some (.builtin "BaseException.__getattribute__")))(x_c12:PySem.W.findIn K (.ref b) "__class__"=some (some (.builtin "object.__class__")))(x_c13:PySem.W.findIn K (.ref b) "__getattr__"=some none)(x_c14:PySem.W.mroIn K b (.type "object")=some true)(x_c15:PySem.W.mroIn K b (.type "BaseException")=some true)(x_c16:(PySem.W.clsIn K b).isSome=true)(x_s1:PySem.W.subIn K (.ref b) (.ref c)=some true)(x_v1:PySem.W.kitOne K (.ref b) (.type "ValueError")=some true)(x_k1_0:PySem.W.kitOne K (.ref b) (.ref a)=some false)(x_k1_1:PySem.W.kitOne K (.ref b) (.ref d)=some false)(x_k1_2:PySem.W.kitOne K (.ref b) (.ref e)=some false)(x_k1_3:PySem.W.kitOne K (.ref b) (.ref b)=some true)(x_a1:PySem.W.kitAny K (.ref b) [.ref w, .ref u, .ref y, .ref B, .ref A, .ref E, .ref v, .ref x, .ref D, .ref z]=some false):∃t,Txt K mg t:=⟨⟨(),s,r,C,c,a,d,e,b,w,u,y,B,A,E,v,x,D,z⟩,⟨⟨PySem.W.mg_none_of X G z_ValueError,PySem.W.mg_none_of X G z_bool,PySem.W.mg_none_of X G z_dict,PySem.W.mg_none_of X G z_enumerate,PySem.W.mg_none_of X G z_int,PySem.W.mg_none_of X G z_isinstance,PySem.W.mg_none_of X G z_len,PySem.W.mg_none_of X G z_list,PySem.W.mg_none_of X G z_max,PySem.W.mg_none_of X G z_min,PySem.W.mg_none_of X G z_range,PySem.W.mg_none_of X G z_tuple,PySem.W.mg_none_of X G z_zip,⟨_,PySem.W.mg_of X G g_MOST_KNOTS⟩,⟨_,PySem.W.mg_of X G g_MOST_DEEP⟩,⟨_,PySem.W.mg_of X G g_MOST_VARIABLE⟩,PySem.W.mg_of X G g_KIDS_DUE,PySem.W.mg_of X G g_BINDER_OVER,PySem.W.mg_of X G g_RULES,PySem.W.mg_of X G g_KeeperError,PySem.W.mg_of X G g_Great,PySem.W.mg_of X G g_NoPlace,PySem.W.mg_of X G g_NoStep,PySem.W.mg_of X G g_Dry,PySem.W.mg_of X G g_NoVariable,PySem.W.mg_of X G g_NoName,PySem.W.mg_of X G g_NotAll,PySem.W.mg_of X G g_NotSome,PySem.W.mg_of X G g_NotSame,PySem.W.mg_of X G g_Unlike,PySem.W.mg_of X G g_NoText,PySem.W.mg_of X G g_NoWord,PySem.W.mg_of X G g_TwiceTold,PySem.W.mg_of X G g_NotClosed⟩,a0.df X G λ_ _ _ _ _ _=>iU (λ_=>rfl),a1.df X G λ_ _ _ _ _ _=>iU (λ_=>rfl),a2.df X G λ_ _ _ _ _ _=>iU (λ_=>rfl),a3.df X G λ_ _ _ _ _ _=>iU (λ_=>rfl),a4.df X G λ_ _ _ _ _ _=>iU (λ_=>rfl),a5.df X G λ_ _ _ _ _ _=>iU (λ_=>rfl),a6.df X G λ_ _ _ _ _ _=>FF (λ_ _=>rfl),a7.df X G λ_ _ _ _ _ _=>FF (λ_ _=>rfl),a8.df X G λ_ _ _ _ _ _=>FF (λ_ _=>rfl),a9.df X G λ_ _ _ _ _ _=>GZ (λ_ _ _=>rfl),a10.df X G λ_ _ _ _ _ _=>GZ (λ_ _ _=>rfl),a11.df X G λ_ _ _ _ _ _=>GZ (λ_ _ _=>rfl),a12.df X G λ_ _ _ _ _ _=>GZ (λ_ _ _=>rfl),a13.df X G λ_ _ _ _ _ _=>GZ (λ_ _ _=>rfl),a14.df X G λ_ _ _ _ _ _=>FF (λ_ _=>rfl),a15.df X G λ_ _ _ _ _ _=>iU (λ_=>rfl),a16.df X G λ_ _ _ _ _ _=>GZ (λ_ _ _=>rfl),a17.df X G λ_ _ _ _ _ _=>GZ (λ_ _ _=>rfl),a18.df X G λ_ _ _ _ _ _=>FF (λ_ _=>rfl),a19.df X G λ_ _ _ _ _ _=>GZ (λ_ _ _=>rfl),a20.df X G λ_ _ _ _ _ _=>GZ (λ_ _ _=>rfl),a21.df X G λ_ _ _ _ _ _=>iU (λ_=>rfl),a22.df X G λ_ _ _ _ _ _=>FF (λ_ _=>rfl),a23.df X G λ_ _ _ _ _ _=>by4 (λ_ _ _ _=>rfl),a24.df X G λ_ _ _ _ _ _=>VM (λ_ _ _ _ _=>rfl),a25.df X G λ_ _ _ _ _ _=>VM (λ_ _ _ _ _=>rfl),a26.df X G λ_ _ _ _ _ _=>VM (λ_ _ _ _ _=>rfl),a27.df X G λ_ _ _ _ _ _=>VM (λ_ _ _ _ _=>rfl),a28.df X G λ_ _ _ _ _ _=>VM (λ_ _ _ _ _=>rfl),a29.df X G λ_ _ _ _ _ _=>by6 (λ_ _ _ _ _ _=>rfl),a30.df X G λ_ _ _ _ _ _=>by6 (λ_ _ _ _ _ _=>rfl),a31.df X G λ_ _ _ _ _ _=>VM (λ_ _ _ _ _=>rfl),a32.df X G λ_ _ _ _ _ _=>iU (λ_=>rfl),a33.df X G λ_ _ _ _ _ _=>iU (λ_=>rfl),a34.df X G λ_ _ _ _ _ _=>iU (λ_=>rfl),a35.df X G λ_ _ _ _ _ _=>VM (λ_ _ _ _ _=>rfl),a36.df X G λ_ _ _ _ _ _=>GZ (λ_ _ _=>rfl),a37.df X G λ_ _ _ _ _ _=>FF (λ_ _=>rfl),a38.df X G λ_ _ _ _ _ _=>FF (λ_ _=>rfl),a39.df X G λ_ _ _ _ _ _=>iU (λ_=>rfl),a40.df X G λ_ _ _ _ _ _=>FF (λ_ _=>rfl),a41.df X G λ_ _ _ _ _ _=>GZ (λ_ _ _=>rfl),a42.df X G λ_ _ _ _ _ _=>GZ (λ_ _ _=>rfl),a43.df X G λ_ _ _ _ _ _=>FF (λ_ _=>rfl),a44.df X G λ_ _ _ _ _ _=>GZ (λ_ _ _=>rfl),a45.df X G λ_ _ _ _ _ _=>GZ (λ_ _ _=>rfl),a46.df X G λ_ _ _ _ _ _=>FF (λ_ _=>rfl),a47.df X G λ_ _ _ _ _ _=>iU (λ_=>rfl),⟨_,aby sy_KIDS_DUE lk_KIDS_DUE ks_KIDS_DUE rf_KIDS_DUE rfl (cM (cD u0_KIDS_DUE v0_KIDS_DUE) (cM (cD u1_KIDS_DUE v1_KIDS_DUE) (cM (cD u2_KIDS_DUE v2_KIDS_DUE) (cM (cD u3_KIDS_DUE v3_KIDS_DUE) (cM (cD u4_KIDS_DUE v4_KIDS_DUE) (cM (cD u5_KIDS_DUE v5_KIDS_DUE) (cM (cD u6_KIDS_DUE v6_KIDS_DUE) (cM (cD u7_KIDS_DUE v7_KIDS_DUE) (cM (cD u8_KIDS_DUE v8_KIDS_DUE) (cM (cD u9_KIDS_DUE v9_KIDS_DUE) (cM (cD u10_KIDS_DUE v10_KIDS_DUE) (cM (cD u11_KIDS_DUE v11_KIDS_DUE) (cM (cD u12_KIDS_DUE v12_KIDS_DUE) (cM (cD u13_KIDS_DUE v13_KIDS_DUE) (cM (cD u14_KIDS_DUE v14_KIDS_DUE) (cM (cD u15_KIDS_DUE v15_KIDS_DUE) (cM (cD u16_KIDS_DUE v16_KIDS_DUE) (cM (cD u17_KIDS_DUE v17_KIDS_DUE) aap))))))))))))))))))⟩,Ui sy_BINDER_OVER lk_BINDER_OVER vs_BINDER_OVER,⟨g,k,m,o,q,f,i,j,l,n,p,TR ["app","rec","carry","first","second"] [g,k,m,o,q] sy_RULES lk_RULES ks_RULES rf_RULES,yc [f] u0_RULES v0_RULES (by simp),cD u0_0_RULES v0_0_RULES,yc [i,j] u1_RULES v1_RULES (by simp),cD u1_0_RULES v1_0_RULES,cD u1_1_RULES v1_1_RULES,yc [l] u2_RULES v2_RULES (by simp),cD u2_0_RULES v2_0_RULES,yc [n] u3_RULES v3_RULES (by simp),cD u3_0_RULES v3_0_RULES,yc [p] u4_RULES v4_RULES (by simp),cD u4_0_RULES v4_0_RULES⟩,⟨⟨_,_,_,PySem.F.excBase_ValueError,x_e0⟩,⟨_,_,_,PySem.F.excBase_ValueError,x_e1⟩,⟨_,_,_,PySem.F.excBase_ValueError,x_e2⟩,⟨_,_,_,PySem.F.excBase_ValueError,x_e3⟩,⟨_,_,_,PySem.F.excBase_ValueError,x_e4⟩,x_x0,⟨x_c01,x_c02,x_c03,x_c04,x_c05,x_c06⟩,x_s0,x_v0,x_k0_0,x_k0_1,x_k0_2,x_k0_3,x_a0,⟨x_c11,x_c12,x_c13,x_c14,x_c15,x_c16⟩,x_s1,x_v1,x_k1_0,x_k1_1,x_k1_2,x_k1_3,x_a1⟩⟩⟩
theorem fin{l:PySem.W.OpenLaw}{w:World}{K:PySem.W.Frag}{mg:Str->Option Value}{t:wY}{fa c1 T1 c2 T2:Addr}{h:Heap}(KX:K.In h)(G:h.Ns mainGlobals mg)(h1:PySem.W.tabIn K "raised"=some (c1,T1))(h2:PySem.W.codeHdIn K c1 T1=true)(h3:PySem.W.tabIn K "put_in"=some (c2,T2))(h4:PySem.W.codeHdIn K c2 T2=true)(T:Txt K mg t)(u:mg "law"=some (.ref fa)):∃fd:FuncData,(∀(s:Shared)(v:Value),BindsTo s fd ⟨[v],[]⟩ [("_law_script",v)])/\∀base:Heap,oN l.prog w K mg base bE 193 fa fd ["_law_script"] (Iv K T1 T2):=by
 obtain⟨f,fd,F,m,b⟩:=T.acf;have e:=u.symm.trans m;cases e;refine⟨fd,?_,λbase=>?_⟩;·obtain⟨oc,od,kV,doc,pm,an,cS,ct,Fn,rfl,Z,Y⟩:=F.ex;exactλs v=> .of_eq rfl
 obtain⟨as,p⟩:=T.F7;have c1:=Hv (P:=l.prog) (w:=w) T.GF T.M;have c2:=ET (P:=l.prog) (w:=w) T.Fz T.M;have q:=GH T.Hw T.M c1 c2;have r:=Gm T.Hz T.M c1;obtain⟨g,ct⟩:=Vr T.GP T.Gh T.MI T.GV T.GC T.A8 T.A6 T.Dj T.M c1 r 7;have k1:=Gn (P:=l.prog) (w:=w) T.Hu T.M;have k2:=gI T.j_ T.M k1 20;have k3:=qJ T.pU T.M k2;have x:=DM T.ED T.M c1 g ct k3;have y:=Gy T.F3 T.M c1 g ct;have z:=Gs (P:=l.prog) (w:=w) T.FT T.M;have A:=Gf T.Gk T.M z k1;have c:=gI T.j_ T.M k1 41;have I:=qJ T.pU T.M c;have O:=zE T.zG T.M c1;have Q:=DB T.Eb T.M c1 O c I;have J:=Ey (P:=l.prog) (w:=w) T.Ec T.M;have a:=LN (P:=l.prog) (w:=w) T.M6 T.M;have i:=FO (P:=l.prog) (w:=w) T.GO T.M p T.zL;have j:=NO T.NW T.M T.X.e1 a J;have p5:=F_ T.FV T.M j;have R:=j5 T.yv T.M a 100;have S:=MC (P:=l.prog) (w:=w) T.M7 T.M;have o:=MH T.Mu T.M T.X.e0 S R;have d:=Ng (P:=l.prog) (w:=w) T.Nb T.M;have L:=ma T.Bf T.M j a d 100;have M:=Mq (n:=100) T.MN T.M (by decide) L o;have U:=jZ (kc:=1) T.qB T.M a i d 58;have V:=QB (Qd T.Ow KX G h1 h2) T.M U;have W:=jZ (kc:=64) T.qB T.M a i d 58;have X:=Ox (Qd T.ON KX G h3 h4) T.M V W o;have s1:=LY (P:=l.prog) (w:=w) T.ME T.M T.S5;have s0:=CF (P:=l.prog) (w:=w) T.Cn T.M;have s2:=CA T.BU T.M X s0;have k:=LS T.M4 T.M T.X.e2 p5 s1 M s2;have f1:=mE T.Ba T.M s1 a 60;have N:=Pz T.Pm T.M T.X.e4 f1 k;have w1:=Gr (P:=l.prog) (w:=w) T.Gg T.M;have B:=G6 T.Gi T.M T.X N w1;have C:=LV T.MG T.M c1;have D:=E4 (P:=l.prog) (w:=w) T.Dv T.M;have E:=FL (P:=l.prog) (w:=w) T.G1 T.M;have H:=MD T.MO T.M T.X A k;exact ach F T.M c1 q y x c Q C D H B E
theorem walk{l:PySem.W.OpenLaw}{q:Program}{loose:List Str}{XP:(Str->Option Value)->Heap->Prop}{YP:World->Heap->Prop}{d:DefRec}{K:Params->PySem.W.Frag}{c1 T1 c2 T2:Addr}(hn:l.most=some 63)(i:d.params.defaults=[])(g:∀(w:World)(h:Heap),YP w h->(K w.params).In h)(h2:∀w:World,PySem.W.codeHdIn (K w.params) c1 T1=true)(h3:∀w:World,(K w.params).lookup T1=none)(h4:∀(w:World)(h:Heap),YP w h->h.get? T1=some (PySem.W.tabObj #[]))(h5:∀w:World,PySem.W.codeHdIn (K w.params) c2 T2=true)(h6:∀w:World,(K w.params).lookup T2=none)(c:∀(w:World)(h:Heap),YP w h->h.get? T2=some (PySem.W.tabObj #[]))(j:T1≠T2)(F:∀(w:World)(mg:Str->Option Value)(fa:Addr)(h:Heap),(K w.params).In h->h.Ns mainGlobals mg->mg d.name=some (.ref fa)->∃fd:FuncData,(∀(s:Shared)(u:Value),BindsTo s fd ⟨[u],[]⟩ [("_law_script",u)])/\∀base:Heap,oN l.prog w (K w.params) mg base bE 193 fa fd ["_law_script"] (Iv (K w.params) T1 T2)):PySem.W.WalkO q loose XP YP l.row.toRowW d [] (λf vs=>PySem.call f vs):=by
 refine Qh (ts:=[(c1,T1, .tab Ft (rawInt Ew.line) (rawInt Ew.col)),(c2,T2, .tab AS (rawInt Av.line) (rawInt Av.col))]) (n:=63) (k:=193) (x:="_law_script") (sp:=λw=>Iv (K w.params) T1 T2) hn (by decide) i ⟨by decide,by decide,λ_=>rfl⟩ g (λw h Y=>⟨λq hq=>?_,λq hq=>?_,λq hq=>?_,λq hq=>?_⟩) F λw H a ns hl b e=>⟨a,ns,rfl,e,hl,⟨b (c1,T1, .tab Ft (rawInt Ew.line) (rawInt Ew.col)) (by simp) (by simp[List.lookup]),b (c2,T2, .tab AS (rawInt Av.line) (rawInt Av.col)) (by simp) ?_⟩,λ_=>rfl⟩
 ·rcases List.mem_cons.mp hq with rfl|hq;·exact h4 w h Y
  ·obtain rfl:=List.mem_singleton.mp hq;exact c w h Y
 ·rcases List.mem_cons.mp hq with rfl|hq;·exact h2 w
  ·obtain rfl:=List.mem_singleton.mp hq;exact h5 w
 ·rcases List.mem_cons.mp hq with rfl|hq;·exact h3 w
  ·obtain rfl:=List.mem_singleton.mp hq;exact h6 w
 ·rcases List.mem_cons.mp hq with rfl|hq;·exact⟨_,_,_,rfl⟩
  ·obtain rfl:=List.mem_singleton.mp hq;exact⟨_,_,_,rfl⟩
 ·have :(T2==T1)=false:=by simpa usingλz:T2=T1=>j z.symm
  simp[List.lookup,this]
end K23
end
section
namespace HD
open PySem PySem.W PySem.Calls PyProof.Rows
noncomputable def Bm{a:Type}:List a->List a×List a|[]=>([],[])|x::r=>(x::(Bm r).2,(Bm r).1)
noncomputable def X8:Nat->List Obj->BT|0,_=> .nil|_+1,[]=> .nil|n+1,x::r=> .node x (X8 n (Bm r).1) (X8 n (Bm r).2)
noncomputable def mkT(l:List Obj):BT:=X8 14 l
noncomputable def i(n:Nat):Value:= .int (.ofNat n) 0
noncomputable def view(p:Program)(l:List Stmt):Program:={p with main:={p.main with body:=l}}
noncomputable abbrev iT(a:Type):Type:=World->(OsState->a)×(OsState->a)
def Ok{a:Type}(q:iT a):Prop:=∀w,(q w).1=(q w).2
theorem iU{b:Type}{q a:iT b}(e:q=a)(h:∀w,(a w).1=(a w).2):Ok q:=by subst e;exact h
theorem FF{e:Type}{q a b:iT e}(r:String)(c:(λw=>q (w.withFollow r false))=a)(d:(λw=>q (w.withFollow r true))=b)(hf:∀w,(a w).1=(a w).2)(ht:∀w,(b w).1=(b w).2):Ok q:=by subst c d;exactλw=>byRow2 r (P:=λw=>(q w).1=(q w).2) hf ht w
section
variable(p:Program)(m:Nat)(ann:Option Value)
noncomputable def pre(n:Nat)(S a:World->OsState->Shared)(t t':Thread):iT (Option (Shared×Thread)):=λw=>(λos=>topGo treeTable p w m ann n (S w os) t,λos=>some (a w os,t'))
noncomputable def blk(n:Nat)(S:World->OsState->Shared)(a:World->OsState->SharedT)(b:List Stmt)(env:Env)(c:Code)(d e:Pos)(B:List Frame):iT (Option (Flow×Shared×Code×Pos)):=λw=>(λos=>segRun treeTable p w m ann 1 n (S w os) (blockOf b env c d B),λos=>some (Flow.next,(a w os).abs,c,e))
noncomputable def seg(n:Nat)(S a:World->OsState->SharedT)(l:List Stmt)(env:Env)(c:Code)(b d:Pos)(B:List Frame):iT (Option (Flow×SharedT×Code×Pos)):=λw=>(λos=>segRunT treeTable p w m ann 1 n (S w os) (piecesOf l env c b B),λos=>some (Flow.next,a w os,c,d))
noncomputable def fin(n:Nat)(S:World->OsState->SharedT)(a:World->OsState->Shared)(t:Thread):iT (Option Shared):=λw=>(λos=>topRun treeTable p w m ann n (S w os).abs t,λos=>some (a w os))
variable{p:Program}{m:Nat}{ann:Option Value}
def Goes(p:Program)(m:Nat)(ann:Option Value)(R:World->OsState->Shared)(n:Nat)(S:World->OsState->Shared)(t:Thread):Prop:=∀w os,topRun treeTable p w m ann n (S w os) t=some (R w os)
noncomputable def T6(S:World->OsState->SharedT):World->OsState->Shared:=λw os=>(S w os).abs
theorem acW{n:Nat}{S:World->OsState->SharedT}{R:World->OsState->Shared}{env:Env}{c:Code}{a q:Pos}(h:Ok (fin p m ann n S R ⟨doneF .next,c,a,[topFrame q]⟩)):Goes p m ann R n (T6 S) (restOf [] env c a [topFrame q]):=λw os=>piece_nil (congrFun (h w) os)
theorem eA{n N:Nat}{S a:World->OsState->SharedT}{R:World->OsState->Shared}{l rest:List Stmt}{env:Env}{c:Code}{b d q:Pos}(h:Ok (seg p m ann n S a l env c b d [topFrame q]))(k:Goes p m ann R N (T6 a) (restOf rest env c d [topFrame q])):Goes p m ann R (n+N) (T6 S) (restOf (l++rest) env c b [topFrame q]):=λw os=>piece_app (segRun_of (congrFun (h w) os)) (k w os)
theorem acG{n N:Nat}{S:World->OsState->Shared}{a:World->OsState->SharedT}{R:World->OsState->Shared}{b b':List Stmt}{env:Env}{c d q:Pos}(e:b=b')(h:Ok (blk p m ann n S a b env (.body b env) c d [topFrame q]))(k:Goes p m ann R N (T6 a) (restOf b' env (.body b env) d [topFrame q])):Goes p m ann R (n+N) S ⟨denote treeTable (.body b env), .body b env,c,[topFrame q]⟩:=λw os=>by subst e;exact piece_block (congrFun (h w) os) (k w os)
theorem aco{n N:Nat}{S a R:World->OsState->Shared}{t t':Thread}(h:Ok (pre p m ann n S a t t'))(k:Goes p m ann R N a t'):Goes p m ann R (n+N) S t:=λw os=>go_top (congrFun (h w) os) (k w os)
end
noncomputable def sz(m:Nat)(a:Option Value):iT (Bool×Nat×Option Value):=λw=>(λ_=>((boot_heap w.params).isNs mainGlobals&&(Array.mk []:Array GenState).size==0,(boot_heap w.params).objs.size,(boot_heap w.params).nsMap mainGlobals "__annotations__"),λ_=>(true,m,a))
noncomputable def mkS(H:Params->Heap)(d:Drawn)(k:Nat):World->OsState->Shared:=λw os=>⟨H w.params,Array.mk [],d,k,os⟩
noncomputable def la(p:Program)(H₁:Params->Heap)(d:Drawn)(k:Nat):iT Bool:=λw=>(λos=>(staticsOk (importedModules p.main.body) (boot_heap w.params) (H₁ w.params)&&namesBound p (H₁ w.params)&&gensDone ⟨H₁ w.params,Array.mk [],d,k,os⟩&&laidKept (boot_heap w.params) (H₁ w.params)),λ_=>true)
noncomputable def lb(p q:Program)(loose:List Str)(Xt:Shared->Bool)(H₁:Params->Heap)(d:Drawn)(k:Nat):=λ(w:World)=>((λ(os:OsState)=>openSeen q loose (importedModules p.main.body) Xt true ⟨H₁ w.params,Array.mk [],d,k,os⟩),(λ(_:OsState)=>openGood q loose))
noncomputable def lc(H:Hook)(H₁:Params->Heap)(d:Drawn)(k:Nat):iT H.α:=λw=>(λos=>H.obs ⟨H₁ w.params,Array.mk [],d,k,os⟩,λ_=>H.val w)
theorem left{p q:Program}{loose:List Str}{Xt:Shared->Bool}{H:Hook}{N m M:Nat}{a:Option Value}{H₁:Params->Heap}{d:Drawn}{k:Nat}(e:opening p=plainProg p.main.scope.names)(b:Nat.ble 600 N=true)(f:∀s,fenceModules? p s=some s)(size:Ok (sz m a))(run:Goes p m a (mkS H₁ d k) M (mkS boot_heap boot_drawn boot_toks) (topStub p))(le:Nat.ble M N=true)(ha:Ok (la p H₁ d k))(hb:Ok (lb p q loose Xt H₁ d k))(hc:Ok (lc H H₁ d k)):LeftO p q loose Xt H.obs H.val N:=LeftO.of_pieces (H₀:=boot_heap) (H₁:=H₁) (boot_open e b f) (λw=>congrFun (size w) default) run le λw=>funext λos=>looks_pair (congrFun (ha w) os) (looks_pair (congrFun (hb w) os) (congrFun (hc w) os))
noncomputable def tp(l:List Value):Obj:=⟨.type "tuple",none, .seq l.toArray 0,#[]⟩
noncomputable def fl(l:List Value):Obj:=⟨.none,none, .fields l.toArray,#[]⟩
noncomputable def e(P:Params)(x:Str)(n:Nat)(v:Value):DictEntry:=⟨PyData.keyHash P x, .str x n,v⟩
noncomputable def dc(l:List DictEntry)(n:Nat):Obj:=⟨.type "dict",none, .dict l.toArray n,#[]⟩
noncomputable def dm(o:Obj)(l:List DictEntry)(n:Nat):Obj:=match o.data with| .dict a _=>dc (a.toList++l) n|_=>o
noncomputable def fa(o:Obj)(l:List Value):Obj:=match o.data with| .fields a=>fl (a.toList++l)|_=>o
noncomputable abbrev F4:Type:=Option (Flow×SharedT×Code×Pos)
noncomputable def cd(n q f:Str)(a b c:Nat)(k1 k2 k3 e g r:Nat)(t:Bool)(m s:Nat)(v1 h j k:Value)(y z d:Nat):Obj:=⟨.type "code",none, .fields #[.str n a, .str q b, .str f c,i k1,i k2,i k3,i e,i g, .ref r, .bool t,i m, .ref s,v1,h,j,k,i y,i z, .str f d],#[]⟩
noncomputable def fs(n q:Str)(s:Stmt):Obj:=⟨.none,none, .func ⟨n,q,L2.gp s, .stmts (L2.cW s),L2.ar s,0,[], .none, .none, .none, .none,none, .none, .none,0⟩,#[]⟩
noncomputable def fu(n q:Str)(s:Stmt)(m:Str)(k c:Nat):Obj:=⟨.type "function",none, .func ⟨n,q,L2.gp s, .stmts (L2.cW s),L2.ar s,3,[], .none, .none, .none, .str m k,none, .ref c, .none,0⟩,#[]⟩
noncomputable def fm(a b c:Nat)(m:Str)(k:Nat):Obj:=⟨.type "frame",none, .plain,#[some (.ref a),some (.ref b),some (.ref c),none,some (.str m k),none,some (.ref 0)]⟩
noncomputable def bm(v w:Value):Obj:=⟨.type "builtin_function_or_method",none, .fields #[v,w],#[]⟩
noncomputable def su(a:Nat):Obj:=⟨.type "super",none, .fields #[.ref a, .ref a, .ref a],#[]⟩
noncomputable def cl(n:Str)(b m:List Value)(d:Nat)(s:List Value)(t k j:Nat)(v:Value):Obj:=⟨.type "type",none, .cls ⟨n,b,m,d,n,true,[],s,false,none,false⟩,#[some (.ref t),none,some (.str n k),some (.str n j),some v,some (.bool true)]⟩
noncomputable def sb(o:Obj)(l:List Value):Obj:=match o with|⟨c,d, .cls x,t⟩=>⟨c,d, .cls {x with subclasses:=x.subclasses++l},t⟩|_=>o
noncomputable def iy(l:List Obj):BT->Nat->BT:=@List.rec Obj (λ_=>BT->Nat->BT) (λt _=>t) (λo _ b t a=>b (t.ins a o) (Nat.succ a)) l
end HD
end
section
namespace K23
open PySem PySem.W PySem.Calls PyProof.Rows
noncomputable abbrev pw:Program:=PySem.Challenge.pw_keeper_k23_normal
noncomputable def ht(i:Nat):Stmt:=pw.main.body.getD i (.Pass ⟨0,0,0,0⟩)
noncomputable def Zx0:Str:= .ofString "__name__"
noncomputable def AF:Str:= .ofString "__doc__"
noncomputable def Zx3:Str:= .ofString "__package__"
noncomputable def Zx4:Str:= .ofString "__loader__"
noncomputable def Zx5:Str:= .ofString "__spec__"
noncomputable def Zx9:Str:= .ofString "all"
noncomputable def Zi:Str:= .ofString "next"
noncomputable def W2:Str:= .ofString "__main__"
noncomputable def EL:Str:= .ofString "__annotations__"
noncomputable def Ff:Str:= .ofString "__builtins__"
noncomputable def E1:Str:= .ofString "__file__"
noncomputable def aU:Str:= .ofString "/claim/cut.py"
noncomputable def E3:Str:= .ofString "__cached__"
noncomputable def U7:Str:= .ofString "<module>"
noncomputable def kg:Str:= .ofString "_wall"
noncomputable def adJ:Str:= .ofString "k"
noncomputable def bg:Str:= .ofString "keeper.errors"
noncomputable def nA:Str:= .ofString "KeeperError"
noncomputable def cQ:Str:= .ofString "__module__"
noncomputable def gP:Str:= .ofString "__qualname__"
noncomputable def cO:Str:= .ofString "__firstlineno__"
noncomputable def aV:Str:= .ofString "small_name"
noncomputable def cP:Str:= .ofString "__static_attributes__"
noncomputable def gV:Str:= .ofString "self"
noncomputable def RS:Str:= .ofString "KeeperError.small_name"
noncomputable def Wg:Str:= .ofString "__weakref__"
noncomputable def mJ:Str:= .ofString "Great"
noncomputable def RX:Str:= .ofString "Great.small_name"
noncomputable def nE:Str:= .ofString "NoPlace"
noncomputable def NV:Str:= .ofString "NoPlace.small_name"
noncomputable def m7:Str:= .ofString "NoStep"
noncomputable def Qa:Str:= .ofString "NoStep.small_name"
noncomputable def nB:Str:= .ofString "Dry"
noncomputable def Qv:Str:= .ofString "Dry.small_name"
noncomputable def mU:Str:= .ofString "NoVariable"
noncomputable def R1:Str:= .ofString "NoVariable.small_name"
noncomputable def mO:Str:= .ofString "NoName"
noncomputable def R_:Str:= .ofString "NoName.small_name"
noncomputable def nF:Str:= .ofString "NotAll"
noncomputable def Pl:Str:= .ofString "NotAll.small_name"
noncomputable def ni:Str:= .ofString "NotSome"
noncomputable def RJ:Str:= .ofString "NotSome.small_name"
noncomputable def om:Str:= .ofString "NotSame"
noncomputable def QG:Str:= .ofString "NotSame.small_name"
noncomputable def mr:Str:= .ofString "Unlike"
noncomputable def N9:Str:= .ofString "Unlike.small_name"
noncomputable def nK:Str:= .ofString "NoText"
noncomputable def Qt:Str:= .ofString "NoText.small_name"
noncomputable def nY:Str:= .ofString "NoWord"
noncomputable def NX:Str:= .ofString "NoWord.small_name"
noncomputable def mK:Str:= .ofString "TwiceTold"
noncomputable def QN:Str:= .ofString "TwiceTold.small_name"
noncomputable def pZ:Str:= .ofString "NotClosed"
noncomputable def R9:Str:= .ofString "NotClosed.small_name"
noncomputable def qE:Str:= .ofString "keeper.things"
noncomputable def Ju:Str:= .ofString "MOST_KNOTS"
noncomputable def Jh:Str:= .ofString "MOST_DEEP"
noncomputable def HL:Str:= .ofString "MOST_VARIABLE"
noncomputable def IA:Str:= .ofString "KIDS_DUE"
noncomputable def acT:Str:= .ofString "nat"
noncomputable def acm:Str:= .ofString "none"
noncomputable def Vy:Str:= .ofString "some"
noncomputable def aa3:Str:= .ofString "same"
noncomputable def acB:Str:= .ofString "var"
noncomputable def Il:Str:= .ofString "fun"
noncomputable def Wj:Str:= .ofString "app"
noncomputable def Pg:Str:= .ofString "zero"
noncomputable def RF:Str:= .ofString "rec"
noncomputable def Rl:Str:= .ofString "like"
noncomputable def Ru:Str:= .ofString "carry"
noncomputable def abh:Str:= .ofString "never"
noncomputable def O0:Str:= .ofString "pair"
noncomputable def NJ:Str:= .ofString "first"
noncomputable def Pd:Str:= .ofString "second"
noncomputable def Wd:Str:= .ofString "name"
noncomputable def kb:Str:= .ofString "kind"
noncomputable def fU:Str:= .ofString "term"
noncomputable def Pf:Str:= .ofString "BINDER_OVER"
noncomputable def my:Str:= .ofString "is_number"
noncomputable def aaX:Str:= .ofString "value"
noncomputable def oq:Str:= .ofString "is_vast"
noncomputable def mX:Str:= .ofString "kids_of"
noncomputable def gB:Str:= .ofString "thing"
noncomputable def mM:Str:= .ofString "binds_of"
noncomputable def nW:Str:= .ofString "top_variable"
noncomputable def mV:Str:= .ofString "bounded"
noncomputable def mq:Str:= .ofString "rebuilt"
noncomputable def OM:Str:= .ofString "kids"
noncomputable def Ed:Str:= .ofString "keeper.places"
noncomputable def ou:Str:= .ofString "kid_at"
noncomputable def Lh:Str:= .ofString "number"
noncomputable def nq:Str:= .ofString "at_place"
noncomputable def J8:Str:= .ofString "place"
noncomputable def Qe:Str:= .ofString "here"
noncomputable def n_:Str:= .ofString "changed_at"
noncomputable def Wa:Str:= .ofString "new"
noncomputable def Vs:Str:= .ofString "kid"
noncomputable def qu:Str:= .ofString "with_at"
noncomputable def N7:Str:= .ofString "keeper.putting"
noncomputable def qx:Str:= .ofString "with_free"
noncomputable def qL:Str:= .ofString "raised"
noncomputable def Xg:Str:= .ofString "by"
noncomputable def WJ:Str:= .ofString "low"
noncomputable def WA:Str:= .ofString "change"
noncomputable def qF:Str:= .ofString "put_in"
noncomputable def WQ:Str:= .ofString "other"
noncomputable def Vh:Str:= .ofString "at"
noncomputable def AI:Str:= .ofString "keeper.steps"
noncomputable def U1:Str:= .ofString "RULES"
noncomputable def pT:Str:= .ofString "rule_of"
noncomputable def Dm:Str:= .ofString "book"
noncomputable def adm:Str:= .ofString "part"
noncomputable def abN:Str:= .ofString "word"
noncomputable def Lp:Str:= .ofString "rule"
noncomputable def qz:Str:= .ofString "after_next"
noncomputable def qC:Str:= .ofString "after_rule"
noncomputable def qG:Str:= .ofString "stepped"
noncomputable def yB:Str:= .ofString "first_step"
noncomputable def W8:Str:= .ofString "step"
noncomputable def acj:Str:= .ofString "keeper.normal"
noncomputable def yt:Str:= .ofString "normal"
noncomputable def acR:Str:= .ofString "fuel"
noncomputable def adR:Str:= .ofString "log"
noncomputable def cT:Str:= .ofString "law_keeper_k23_normal"
noncomputable def xH:Str:= .ofString "_law_draw"
noncomputable def fX:Str:= .ofString "_law_script"
noncomputable def fY:Str:= .ofString "_law_tape"
noncomputable def JE:Str:= .ofString "_law_many"
noncomputable def adE:Str:= .ofString "_law_seed"
noncomputable def abI:Str:= .ofString "_law_cell"
noncomputable def yu:Str:= .ofString "_law_named"
noncomputable def Ke:Str:= .ofString "_law_word_here"
noncomputable def yh:Str:= .ofString "_law_pool"
noncomputable def yQ:Str:= .ofString "_law_leaf"
noncomputable def lh:Str:= .ofString "_law_near"
noncomputable def jJ:Str:= .ofString "_law_pool_here"
noncomputable def AN:Str:= .ofString "_law_way"
noncomputable def yM:Str:= .ofString "_law_kind"
noncomputable def ll:Str:= .ofString "_law_deep"
noncomputable def Rq:Str:= .ofString "_law_first"
noncomputable def Ak:Str:= .ofString "_law_kind_here"
noncomputable def yT:Str:= .ofString "_law_fun"
noncomputable def ye:Str:= .ofString "_law_pair"
noncomputable def xx:Str:= .ofString "_law_like"
noncomputable def yw:Str:= .ofString "_law_number"
noncomputable def xF:Str:= .ofString "_law_parted"
noncomputable def VC:Str:= .ofString "_law_second"
noncomputable def zg:Str:= .ofString "_law_still"
noncomputable def W_:Str:= .ofString "_law_one"
noncomputable def WC:Str:= .ofString "_law_two"
noncomputable def abg:Str:= .ofString "_law_three"
noncomputable def yi:Str:= .ofString "_law_term"
noncomputable def yb:Str:= .ofString "_law_kids"
noncomputable def nP:Str:= .ofString "_law_thing_here"
noncomputable def xK:Str:= .ofString "_law_measured"
noncomputable def abP:Str:= .ofString "_law_knots"
noncomputable def abL:Str:= .ofString "_law_most"
noncomputable def acQ:Str:= .ofString "_law_kid"
noncomputable def V5:Str:= .ofString "_law_told_here"
noncomputable def xw:Str:= .ofString "_law_great"
noncomputable def zc:Str:= .ofString "_law_thing"
noncomputable def acn:Str:= .ofString "_law_made"
noncomputable def yp:Str:= .ofString "_law_book"
noncomputable def AM:Str:= .ofString "_law_book_here"
noncomputable def Ia:Str:= .ofString "_law_k"
noncomputable def xB:Str:= .ofString "_law_rule"
noncomputable def acN:Str:= .ofString "_law_heads"
noncomputable def yG:Str:= .ofString "_law_rows"
noncomputable def EX:Str:= .ofString "_law_found"
noncomputable def acI:Str:= .ofString "_law_waiting"
noncomputable def abq:Str:= .ofString "_law_place"
noncomputable def abZ:Str:= .ofString "_law_here"
noncomputable def aaK:Str:= .ofString "_law_kids_here"
noncomputable def ac0:Str:= .ofString "_law_step"
noncomputable def adN:Str:= .ofString "_law_number_here"
noncomputable def yS:Str:= .ofString "_law_word"
noncomputable def WZ:Str:= .ofString "_law_e"
noncomputable def aaU:Str:= .ofString "_law_later"
noncomputable def xI:Str:= .ofString "_law_chain"
noncomputable def acD:Str:= .ofString "_law_letters"
noncomputable def acw:Str:= .ofString "_law_after"
noncomputable def yV:Str:= .ofString "_law_wrapped"
noncomputable def xC:Str:= .ofString "_law_under"
noncomputable def yA:Str:= .ofString "_law_sum"
noncomputable def acK:Str:= .ofString "_law_more"
noncomputable def x6:Str:= .ofString "_law_due"
noncomputable def yY:Str:= .ofString "_law_told"
noncomputable def U0:Str:= .ofString "_law_fuel"
noncomputable def yk:Str:= .ofString "_law_same"
noncomputable def WD:Str:= .ofString "_law_due_here"
noncomputable def xq:Str:= .ofString "law"
noncomputable def adl:Str:= .ofString "_law_handed"
noncomputable def ab1:Str:= .ofString "_law_kept"
variable(P:Params)
noncomputable def dH:Env:={scope:=pw.main.scope,locals:=mainNs,globals:=mainNs,cells:=[],code:=(.ref 13),frame:=some (nat_lit 14)}
noncomputable def cu:Code:= .body (behindTheImports pw) dH
noncomputable def dF:List Frame:=[topFrame ⟨0,0,0,0⟩]
noncomputable abbrev ZS0:World->OsState->Shared:=HD.mkS boot_heap boot_drawn boot_toks
def af:=HD.tp []
def aG:=HD.fl []
def Q5:=HD.cd U7 U7 aU 182 183 184 1 0 0 0 0 11 false 181 12 .none .none .none .none 185 1 186
def Px:=HD.fm 13 3 3 W2 164
noncomputable def aaW(r:List (Obj)):List (Obj):=PySem.W.boot_o_0 P::PySem.W.boot_o_1 P::PySem.W.boot_o_2 P::PySem.W.boot_o_3 P::PySem.W.boot_o_4 P::PySem.W.boot_o_5 P::PySem.W.boot_o_6 P::PySem.W.boot_o_7 P::PySem.W.boot_o_8 P::PySem.W.boot_o_9 P::PySem.W.boot_o_10 P::af::r
noncomputable def adq(r:List (Obj)):List (Obj):=aG::Q5::Px::r
noncomputable def ZHa(P:Params):Heap:=⟨Array.mk (aaW P (adq [])),⟨[],[],[],0,[],[],false,#[],[],0,false,false,false,(.ofNat 0),[(.ofNat 2000),(.ofNat 10),(.ofNat 10)],false,0,true,[],[],0,false⟩⟩
noncomputable def Zda:Drawn:=⟨0,0,0,0⟩
noncomputable def Zka:Nat:=nat_lit 187
noncomputable abbrev ZSa:World->OsState->Shared:=HD.mkS ZHa Zda Zka
noncomputable def Zqa:HD.iT (Option (Shared×Thread)):=λw=>(λos=>topGo treeTable pw w (nat_lit 11) (some (.ref 6)) (nat_lit 12) (ZS0 w os) (topStub pw),λos=>some (ZSa w os,Thread.mk (denote treeTable cu) cu ⟨0,0,0,0⟩ dF))
theorem YR:HD.pre pw (nat_lit 11) (some (.ref 6)) (nat_lit 12) ZS0 ZSa (topStub pw) (Thread.mk (denote treeTable cu) cu ⟨0,0,0,0⟩ dF)=Zqa:=by kernel_rfl
name_quick Wo for Zqa by YR
theorem Zia(w:World):(Fast.Wo w).1=(Fast.Wo w).2:=by kernel_rfl
theorem Zha:HD.Ok (HD.pre pw (nat_lit 11) (some (.ref 6)) (nat_lit 12) ZS0 ZSa (topStub pw) (Thread.mk (denote treeTable cu) cu ⟨0,0,0,0⟩ dF)):=HD.iU Fast.Wo_eq Zia
noncomputable def acp(r:List (Obj)):List (Obj):=PySem.W.boot_o_0 P::PySem.W.boot_o_1 P::PySem.W.boot_o_2 P::PySem.W.boot_o_3 P::PySem.W.boot_o_4 P::PySem.W.boot_o_5 P::PySem.W.boot_o_6 P::PySem.W.boot_o_7 P::PySem.W.boot_o_8 P::PySem.W.boot_o_9 P::PySem.W.boot_o_10 P::af::r
noncomputable def adh(r:List (Obj)):List (Obj):=aG::Q5::Px::r
noncomputable def ZTb(P:Params):BT:=HD.mkT (acp P (adh []))
noncomputable def gY:Life:=⟨[],[],[],0,[],[],false,#[],[],0,false,false,false,(.ofNat 0),[(.ofNat 2000),(.ofNat 10),(.ofNat 10)],false,0,true,[],[],0,false⟩
noncomputable abbrev ZSb(w:World)(os:OsState):SharedT:=⟨ZTb w.params,nat_lit 15,gY,Array.mk [],⟨0,0,0,0⟩,nat_lit 187,os⟩
noncomputable def Zqb:HD.iT (Option (Flow×Shared×Code×Pos)):=λw=>(λos=>segRun treeTable pw w (nat_lit 11) (some (.ref 6)) (nat_lit 1) (nat_lit 1) (ZSa w os) (blockOf (behindTheImports pw) dH cu ⟨0,0,0,0⟩ dF),λos=>some (Flow.next,(ZSb w os).abs,cu,⟨0,0,0,0⟩))
theorem Yr:HD.blk pw (nat_lit 11) (some (.ref 6)) (nat_lit 1) ZSa ZSb (behindTheImports pw) dH cu ⟨0,0,0,0⟩ ⟨0,0,0,0⟩ dF=Zqb:=by kernel_rfl
name_quick Wt for Zqb by Yr
theorem Zib(w:World):(Fast.Wt w).1=(Fast.Wt w).2:=by kernel_rfl
theorem Zhb:HD.Ok (HD.blk pw (nat_lit 11) (some (.ref 6)) (nat_lit 1) ZSa ZSb (behindTheImports pw) dH cu ⟨0,0,0,0⟩ ⟨0,0,0,0⟩ dF):=HD.iU Fast.Wt_eq Zib
def aaP:=HD.dc [HD.e P Zx0 165 (.str bg 194),HD.e P AF 166 .none,HD.e P Zx3 167 .none,HD.e P Zx4 168 (.builtin "__main__.__loader__#opaque"),HD.e P Zx5 169 .none,HD.e P EL 170 (.ref 6),HD.e P Ff 171 (.ref 4),HD.e P E1 173 (.str aU 172),HD.e P E3 174 .none,HD.e P kg 193 (.ref 21),HD.e P nA 220 (.ref 38)] 11
def VQ:=HD.fl [(HD.i 1),(HD.i 0),(.ref 20),(HD.i 5),(HD.i 0),(.ref 27)]
def IM:=HD.tp [(.str adJ 190)]
def VX:=HD.fs kg kg (ht 0)
def J4:=HD.cd kg kg aU 187 188 189 1 1 0 0 3 15 true 181 16 .none (.ref 17) (.ref 18) (.ref 19) 191 1 192
def Jw:=HD.fu kg kg (ht 0) W2 164 20
def J7:=HD.tp [(.type "ValueError")]
def cR:=HD.bm (.builtin "type.__prepare__") (.type "type")
def Xb:=HD.dc [HD.e P cQ 203 (.str bg 194),HD.e P gP 205 (.str nA 204),HD.e P cO 207 (.int (.ofNat 5) 206),HD.e P aV 214 (.ref 35),HD.e P cP 215 (.ref 36)] 5
def Wx:=HD.fl [(HD.i 7),(HD.i 4),(.ref 34)]
def WY:=HD.cd nA nA aU 198 199 200 5 0 0 0 0 25 false 181 26 .none .none .none .none 201 5 202
def Vj:=HD.fm 27 3 24 bg 194
def K3:=HD.tp [(.str gV 211)]
def WM:=HD.fs aV RS (L2.inClass (ht 2) 0)
def K1:=HD.cd aV RS aU 208 209 210 7 1 0 0 3 29 true 181 30 .none (.ref 31) (.ref 32) (.ref 33) 212 7 213
def IT:=HD.fu aV RS (L2.inClass (ht 2) 0) bg 194 34
def HY:=HD.dc [HD.e P cQ 203 (.str bg 194),HD.e P cO 207 (.int (.ofNat 5) 206),HD.e P aV 214 (.ref 35),HD.e P cP 215 (.ref 36),HD.e P Wg 217 (.ref 39),HD.e P AF 218 .none] 3
def V3:=HD.cl nA [(.type "ValueError")] [(.ref 38),(.type "ValueError"),(.type "Exception"),(.type "BaseException"),(.type "object")] 37 [] 22 196 204 (.builtin "ValueError.__new__")
noncomputable def Iu:Obj:=⟨(.type "getset_descriptor"),none,(.fields #[(.str Wg 216),(.ref 38),(.builtin "ExceptionGroup.__weakref__"), .none]),#[]⟩
def Vo:=HD.su 38
def V9:=HD.bm (.builtin "object.__init_subclass__") (.ref 38)
noncomputable def Zg1:List Stmt:=[ht 0,ht 1,ht 2]
noncomputable def ZT1(P:Params):BT:=(HD.iy [af,aG,IM,af,VX,J4,Jw,J7,cR,Xb P,af,Wx,WY,Vj,af,aG,K3,af,WM,K1,IT,af,HY P,V3,Iu,Vo,V9] (((ZTb P).ins (nat_lit 3) (aaP P)).ins (nat_lit 12) (VQ)) (nat_lit 15))
noncomputable abbrev ZS1(w:World)(os:OsState):SharedT:=⟨ZT1 w.params,nat_lit 42,gY,Array.mk [],⟨0,0,0,0⟩,nat_lit 221,os⟩
noncomputable def Zq1:HD.iT (HD.F4):=λw=>(λos=>segRunT treeTable pw w (nat_lit 11) (some (.ref 6)) (nat_lit 1) (nat_lit 255) (ZSb w os) (piecesOf Zg1 dH cu ⟨0,0,0,0⟩ dF),λos=>some (Flow.next,ZS1 w os,cu,⟨5,0,8,16⟩))
theorem ZO:HD.seg pw (nat_lit 11) (some (.ref 6)) (nat_lit 255) ZSb ZS1 Zg1 dH cu ⟨0,0,0,0⟩ ⟨5,0,8,16⟩ dF=Zq1:=by kernel_rfl
name_quick WS for Zq1 by ZO
theorem Zi1(w:World):(Fast.WS w).1=(Fast.WS w).2:=by kernel_rfl
theorem Zh1:HD.Ok (HD.seg pw (nat_lit 11) (some (.ref 6)) (nat_lit 255) ZSb ZS1 Zg1 dH cu ⟨0,0,0,0⟩ ⟨5,0,8,16⟩ dF):=HD.iU Fast.WS_eq Zi1
def aa6:=HD.dm (aaP P) [HD.e P mJ 243 (.ref 58)] 12
def V1:=HD.fa (VQ) [(HD.i 9),(HD.i 0),(.ref 47)]
def U6:=HD.sb (V3) [(.ref 58)]
def bw:=HD.tp [(.ref 38)]
def VZ:=HD.dc [HD.e P cQ 228 (.str bg 194),HD.e P gP 230 (.str mJ 229),HD.e P cO 232 (.int (.ofNat 9) 231),HD.e P aV 239 (.ref 55),HD.e P cP 240 (.ref 56)] 5
def V2:=HD.fl [(HD.i 11),(HD.i 4),(.ref 54)]
def Vd:=HD.cd mJ mJ aU 223 224 225 9 0 0 0 0 45 false 181 46 .none .none .none .none 226 9 227
def Vb:=HD.fm 47 3 44 bg 194
def La:=HD.tp [(.str gV 236)]
def WH:=HD.fs aV RX (L2.inClass (ht 3) 0)
def KJ:=HD.cd aV RX aU 233 234 235 11 1 0 0 3 49 true 181 50 .none (.ref 51) (.ref 52) (.ref 53) 237 11 238
def KL:=HD.fu aV RX (L2.inClass (ht 3) 0) bg 194 54
def JX:=HD.dc [HD.e P cQ 228 (.str bg 194),HD.e P cO 232 (.int (.ofNat 9) 231),HD.e P aV 239 (.ref 55),HD.e P cP 240 (.ref 56),HD.e P AF 241 .none] 2
def Kt:=HD.cl mJ [(.ref 38)] [(.ref 58),(.ref 38),(.type "ValueError"),(.type "Exception"),(.type "BaseException"),(.type "object")] 57 [] 42 221 229 (.builtin "ValueError.__new__")
def UZ:=HD.su 58
def VY:=HD.bm (.builtin "object.__init_subclass__") (.ref 58)
noncomputable def Zg2:List Stmt:=[ht 3]
noncomputable def ZT2(P:Params):BT:=(HD.iy [bw,cR,VZ P,af,V2,Vd,Vb,af,aG,La,af,WH,KJ,KL,af,JX P,Kt,UZ,VY] ((((ZT1 P).ins (nat_lit 3) (aa6 P)).ins (nat_lit 12) (V1)).ins (nat_lit 38) (U6)) (nat_lit 42))
noncomputable abbrev ZS2(w:World)(os:OsState):SharedT:=⟨ZT2 w.params,nat_lit 61,gY,Array.mk [],⟨0,0,0,0⟩,nat_lit 244,os⟩
noncomputable def Zq2:HD.iT (HD.F4):=λw=>(λos=>segRunT treeTable pw w (nat_lit 11) (some (.ref 6)) (nat_lit 1) (nat_lit 244) (ZS1 w os) (piecesOf Zg2 dH cu ⟨5,0,8,16⟩ dF),λos=>some (Flow.next,ZS2 w os,cu,⟨9,0,12,16⟩))
theorem aaD:HD.seg pw (nat_lit 11) (some (.ref 6)) (nat_lit 244) ZS1 ZS2 Zg2 dH cu ⟨5,0,8,16⟩ ⟨9,0,12,16⟩ dF=Zq2:=by kernel_rfl
name_quick Vt for Zq2 by aaD
theorem Zi2(w:World):(Fast.Vt w).1=(Fast.Vt w).2:=by kernel_rfl
theorem Zh2:HD.Ok (HD.seg pw (nat_lit 11) (some (.ref 6)) (nat_lit 244) ZS1 ZS2 Zg2 dH cu ⟨5,0,8,16⟩ ⟨9,0,12,16⟩ dF):=HD.iU Fast.Vt_eq Zi2
def abW:=HD.dm (aa6 P) [HD.e P nE 266 (.ref 77)] 13
def U5:=HD.fa (V1) [(HD.i 13),(HD.i 0),(.ref 66)]
def Xe:=HD.sb (U6) [(.ref 77)]
def VA:=HD.dc [HD.e P cQ 251 (.str bg 194),HD.e P gP 253 (.str nE 252),HD.e P cO 255 (.int (.ofNat 13) 254),HD.e P aV 262 (.ref 74),HD.e P cP 263 (.ref 75)] 5
def WN:=HD.fl [(HD.i 15),(HD.i 4),(.ref 73)]
def WI:=HD.cd nE nE aU 246 247 248 13 0 0 0 0 64 false 181 65 .none .none .none .none 249 13 250
def Wl:=HD.fm 66 3 63 bg 194
def Jc:=HD.tp [(.str gV 259)]
def Wi:=HD.fs aV NV (L2.inClass (ht 4) 0)
def HH:=HD.cd aV NV aU 256 257 258 15 1 0 0 3 68 true 181 69 .none (.ref 70) (.ref 71) (.ref 72) 260 15 261
def LJ:=HD.fu aV NV (L2.inClass (ht 4) 0) bg 194 73
def K6:=HD.dc [HD.e P cQ 251 (.str bg 194),HD.e P cO 255 (.int (.ofNat 13) 254),HD.e P aV 262 (.ref 74),HD.e P cP 263 (.ref 75),HD.e P AF 264 .none] 2
def KN:=HD.cl nE [(.ref 38)] [(.ref 77),(.ref 38),(.type "ValueError"),(.type "Exception"),(.type "BaseException"),(.type "object")] 76 [] 61 244 252 (.builtin "ValueError.__new__")
def Wz:=HD.su 77
def VU:=HD.bm (.builtin "object.__init_subclass__") (.ref 77)
noncomputable def Zg3:List Stmt:=[ht 4]
noncomputable def ZT3(P:Params):BT:=(HD.iy [bw,cR,VA P,af,WN,WI,Wl,af,aG,Jc,af,Wi,HH,LJ,af,K6 P,KN,Wz,VU] ((((ZT2 P).ins (nat_lit 3) (abW P)).ins (nat_lit 12) (U5)).ins (nat_lit 38) (Xe)) (nat_lit 61))
noncomputable abbrev ZS3(w:World)(os:OsState):SharedT:=⟨ZT3 w.params,nat_lit 80,gY,Array.mk [],⟨0,0,0,0⟩,nat_lit 267,os⟩
noncomputable def Zq3:HD.iT (HD.F4):=λw=>(λos=>segRunT treeTable pw w (nat_lit 11) (some (.ref 6)) (nat_lit 1) (nat_lit 244) (ZS2 w os) (piecesOf Zg3 dH cu ⟨9,0,12,16⟩ dF),λos=>some (Flow.next,ZS3 w os,cu,⟨13,0,16,16⟩))
theorem Xp:HD.seg pw (nat_lit 11) (some (.ref 6)) (nat_lit 244) ZS2 ZS3 Zg3 dH cu ⟨9,0,12,16⟩ ⟨13,0,16,16⟩ dF=Zq3:=by kernel_rfl
name_quick Ws for Zq3 by Xp
theorem Zi3(w:World):(Fast.Ws w).1=(Fast.Ws w).2:=by kernel_rfl
theorem Zh3:HD.Ok (HD.seg pw (nat_lit 11) (some (.ref 6)) (nat_lit 244) ZS2 ZS3 Zg3 dH cu ⟨9,0,12,16⟩ ⟨13,0,16,16⟩ dF):=HD.iU Fast.Ws_eq Zi3
def abH:=HD.dm (abW P) [HD.e P m7 289 (.ref 96)] 14
def Wc:=HD.fa (U5) [(HD.i 17),(HD.i 0),(.ref 85)]
def VT:=HD.sb (Xe) [(.ref 96)]
def VI:=HD.dc [HD.e P cQ 274 (.str bg 194),HD.e P gP 276 (.str m7 275),HD.e P cO 278 (.int (.ofNat 17) 277),HD.e P aV 285 (.ref 93),HD.e P cP 286 (.ref 94)] 5
def W9:=HD.fl [(HD.i 19),(HD.i 4),(.ref 92)]
def VB:=HD.cd m7 m7 aU 269 270 271 17 0 0 0 0 83 false 181 84 .none .none .none .none 272 17 273
def Vv:=HD.fm 85 3 82 bg 194
def Jx:=HD.tp [(.str gV 282)]
def Vg:=HD.fs aV Qa (L2.inClass (ht 5) 0)
def Kv:=HD.cd aV Qa aU 279 280 281 19 1 0 0 3 87 true 181 88 .none (.ref 89) (.ref 90) (.ref 91) 283 19 284
def Ko:=HD.fu aV Qa (L2.inClass (ht 5) 0) bg 194 92
def Ib:=HD.dc [HD.e P cQ 274 (.str bg 194),HD.e P cO 278 (.int (.ofNat 17) 277),HD.e P aV 285 (.ref 93),HD.e P cP 286 (.ref 94),HD.e P AF 287 .none] 2
def Kf:=HD.cl m7 [(.ref 38)] [(.ref 96),(.ref 38),(.type "ValueError"),(.type "Exception"),(.type "BaseException"),(.type "object")] 95 [] 80 267 275 (.builtin "ValueError.__new__")
def Wv:=HD.su 96
def VN:=HD.bm (.builtin "object.__init_subclass__") (.ref 96)
noncomputable def Zg4:List Stmt:=[ht 5]
noncomputable def ZT4(P:Params):BT:=(HD.iy [bw,cR,VI P,af,W9,VB,Vv,af,aG,Jx,af,Vg,Kv,Ko,af,Ib P,Kf,Wv,VN] ((((ZT3 P).ins (nat_lit 3) (abH P)).ins (nat_lit 12) (Wc)).ins (nat_lit 38) (VT)) (nat_lit 80))
noncomputable abbrev ZS4(w:World)(os:OsState):SharedT:=⟨ZT4 w.params,nat_lit 99,gY,Array.mk [],⟨0,0,0,0⟩,nat_lit 290,os⟩
noncomputable def Zq4:HD.iT (HD.F4):=λw=>(λos=>segRunT treeTable pw w (nat_lit 11) (some (.ref 6)) (nat_lit 1) (nat_lit 244) (ZS3 w os) (piecesOf Zg4 dH cu ⟨13,0,16,16⟩ dF),λos=>some (Flow.next,ZS4 w os,cu,⟨17,0,20,16⟩))
theorem aaF:HD.seg pw (nat_lit 11) (some (.ref 6)) (nat_lit 244) ZS3 ZS4 Zg4 dH cu ⟨13,0,16,16⟩ ⟨17,0,20,16⟩ dF=Zq4:=by kernel_rfl
name_quick WG for Zq4 by aaF
theorem Zi4(w:World):(Fast.WG w).1=(Fast.WG w).2:=by kernel_rfl
theorem Zh4:HD.Ok (HD.seg pw (nat_lit 11) (some (.ref 6)) (nat_lit 244) ZS3 ZS4 Zg4 dH cu ⟨13,0,16,16⟩ ⟨17,0,20,16⟩ dF):=HD.iU Fast.WG_eq Zi4
def adA:=HD.dm (abH P) [HD.e P nB 312 (.ref 115)] 15
def WR:=HD.fa (Wc) [(HD.i 21),(HD.i 0),(.ref 104)]
def Wn:=HD.sb (VT) [(.ref 115)]
def P9:=HD.dc [HD.e P cQ 297 (.str bg 194),HD.e P gP 299 (.str nB 298),HD.e P cO 301 (.int (.ofNat 21) 300),HD.e P aV 308 (.ref 112),HD.e P cP 309 (.ref 113)] 5
def NY:=HD.fl [(HD.i 23),(HD.i 4),(.ref 111)]
def NZ:=HD.cd nB nB aU 292 293 294 21 0 0 0 0 102 false 181 103 .none .none .none .none 295 21 296
def RZ:=HD.fm 104 3 101 bg 194
def BW:=HD.tp [(.str gV 305)]
def RE:=HD.fs aV Qv (L2.inClass (ht 6) 0)
def B3:=HD.cd aV Qv aU 302 303 304 23 1 0 0 3 106 true 181 107 .none (.ref 108) (.ref 109) (.ref 110) 306 23 307
def BS:=HD.fu aV Qv (L2.inClass (ht 6) 0) bg 194 111
def BL:=HD.dc [HD.e P cQ 297 (.str bg 194),HD.e P cO 301 (.int (.ofNat 21) 300),HD.e P aV 308 (.ref 112),HD.e P cP 309 (.ref 113),HD.e P AF 310 .none] 2
def By:=HD.cl nB [(.ref 38)] [(.ref 115),(.ref 38),(.type "ValueError"),(.type "Exception"),(.type "BaseException"),(.type "object")] 114 [] 99 290 298 (.builtin "ValueError.__new__")
def RV:=HD.su 115
def Sa:=HD.bm (.builtin "object.__init_subclass__") (.ref 115)
noncomputable def Zg5:List Stmt:=[ht 6]
noncomputable def ZT5(P:Params):BT:=(HD.iy [bw,cR,P9 P,af,NY,NZ,RZ,af,aG,BW,af,RE,B3,BS,af,BL P,By,RV,Sa] ((((ZT4 P).ins (nat_lit 3) (adA P)).ins (nat_lit 12) (WR)).ins (nat_lit 38) (Wn)) (nat_lit 99))
noncomputable abbrev ZS5(w:World)(os:OsState):SharedT:=⟨ZT5 w.params,nat_lit 118,gY,Array.mk [],⟨0,0,0,0⟩,nat_lit 313,os⟩
noncomputable def Zq5:HD.iT (HD.F4):=λw=>(λos=>segRunT treeTable pw w (nat_lit 11) (some (.ref 6)) (nat_lit 1) (nat_lit 244) (ZS4 w os) (piecesOf Zg5 dH cu ⟨17,0,20,16⟩ dF),λos=>some (Flow.next,ZS5 w os,cu,⟨21,0,24,16⟩))
theorem aaJ:HD.seg pw (nat_lit 11) (some (.ref 6)) (nat_lit 244) ZS4 ZS5 Zg5 dH cu ⟨17,0,20,16⟩ ⟨21,0,24,16⟩ dF=Zq5:=by kernel_rfl
name_quick W7 for Zq5 by aaJ
theorem Zi5(w:World):(Fast.W7 w).1=(Fast.W7 w).2:=by kernel_rfl
theorem Zh5:HD.Ok (HD.seg pw (nat_lit 11) (some (.ref 6)) (nat_lit 244) ZS4 ZS5 Zg5 dH cu ⟨17,0,20,16⟩ ⟨21,0,24,16⟩ dF):=HD.iU Fast.W7_eq Zi5
def adS:=HD.dm (adA P) [HD.e P mU 335 (.ref 134)] 16
def V7:=HD.fa (WR) [(HD.i 25),(HD.i 0),(.ref 123)]
def Wh:=HD.sb (Wn) [(.ref 134)]
def OZ:=HD.dc [HD.e P cQ 320 (.str bg 194),HD.e P gP 322 (.str mU 321),HD.e P cO 324 (.int (.ofNat 25) 323),HD.e P aV 331 (.ref 131),HD.e P cP 332 (.ref 132)] 5
def Qo:=HD.fl [(HD.i 27),(HD.i 4),(.ref 130)]
def Py:=HD.cd mU mU aU 315 316 317 25 0 0 0 0 121 false 181 122 .none .none .none .none 318 25 319
def QK:=HD.fm 123 3 120 bg 194
def Bi:=HD.tp [(.str gV 328)]
def Pq:=HD.fs aV R1 (L2.inClass (ht 7) 0)
def BE:=HD.cd aV R1 aU 325 326 327 27 1 0 0 3 125 true 181 126 .none (.ref 127) (.ref 128) (.ref 129) 329 27 330
def B7:=HD.fu aV R1 (L2.inClass (ht 7) 0) bg 194 130
def BZ:=HD.dc [HD.e P cQ 320 (.str bg 194),HD.e P cO 324 (.int (.ofNat 25) 323),HD.e P aV 331 (.ref 131),HD.e P cP 332 (.ref 132),HD.e P AF 333 .none] 2
def AZ:=HD.cl mU [(.ref 38)] [(.ref 134),(.ref 38),(.type "ValueError"),(.type "Exception"),(.type "BaseException"),(.type "object")] 133 [] 118 313 321 (.builtin "ValueError.__new__")
def NP:=HD.su 134
def RQ:=HD.bm (.builtin "object.__init_subclass__") (.ref 134)
noncomputable def Zg6:List Stmt:=[ht 7]
noncomputable def ZT6(P:Params):BT:=(HD.iy [bw,cR,OZ P,af,Qo,Py,QK,af,aG,Bi,af,Pq,BE,B7,af,BZ P,AZ,NP,RQ] ((((ZT5 P).ins (nat_lit 3) (adS P)).ins (nat_lit 12) (V7)).ins (nat_lit 38) (Wh)) (nat_lit 118))
noncomputable abbrev ZS6(w:World)(os:OsState):SharedT:=⟨ZT6 w.params,nat_lit 137,gY,Array.mk [],⟨0,0,0,0⟩,nat_lit 336,os⟩
noncomputable def Zq6:HD.iT (HD.F4):=λw=>(λos=>segRunT treeTable pw w (nat_lit 11) (some (.ref 6)) (nat_lit 1) (nat_lit 244) (ZS5 w os) (piecesOf Zg6 dH cu ⟨21,0,24,16⟩ dF),λos=>some (Flow.next,ZS6 w os,cu,⟨25,0,28,16⟩))
theorem ZD:HD.seg pw (nat_lit 11) (some (.ref 6)) (nat_lit 244) ZS5 ZS6 Zg6 dH cu ⟨21,0,24,16⟩ ⟨25,0,28,16⟩ dF=Zq6:=by kernel_rfl
name_quick Vp for Zq6 by ZD
theorem Zi6(w:World):(Fast.Vp w).1=(Fast.Vp w).2:=by kernel_rfl
theorem Zh6:HD.Ok (HD.seg pw (nat_lit 11) (some (.ref 6)) (nat_lit 244) ZS5 ZS6 Zg6 dH cu ⟨21,0,24,16⟩ ⟨25,0,28,16⟩ dF):=HD.iU Fast.Vp_eq Zi6
def adv:=HD.dm (adS P) [HD.e P mO 358 (.ref 153)] 17
def U3:=HD.fa (V7) [(HD.i 29),(HD.i 0),(.ref 142)]
def VP:=HD.sb (Wh) [(.ref 153)]
def R6:=HD.dc [HD.e P cQ 343 (.str bg 194),HD.e P gP 345 (.str mO 344),HD.e P cO 347 (.int (.ofNat 29) 346),HD.e P aV 354 (.ref 150),HD.e P cP 355 (.ref 151)] 5
def Od:=HD.fl [(HD.i 31),(HD.i 4),(.ref 149)]
def RU:=HD.cd mO mO aU 338 339 340 29 0 0 0 0 140 false 181 141 .none .none .none .none 341 29 342
def QL:=HD.fm 142 3 139 bg 194
def BN:=HD.tp [(.str gV 351)]
def OH:=HD.fs aV R_ (L2.inClass (ht 8) 0)
def BG:=HD.cd aV R_ aU 348 349 350 31 1 0 0 3 144 true 181 145 .none (.ref 146) (.ref 147) (.ref 148) 352 31 353
def CN:=HD.fu aV R_ (L2.inClass (ht 8) 0) bg 194 149
def C0:=HD.dc [HD.e P cQ 343 (.str bg 194),HD.e P cO 347 (.int (.ofNat 29) 346),HD.e P aV 354 (.ref 150),HD.e P cP 355 (.ref 151),HD.e P AF 356 .none] 2
def Cc:=HD.cl mO [(.ref 38)] [(.ref 153),(.ref 38),(.type "ValueError"),(.type "Exception"),(.type "BaseException"),(.type "object")] 152 [] 137 336 344 (.builtin "ValueError.__new__")
def Rf:=HD.su 153
def QV:=HD.bm (.builtin "object.__init_subclass__") (.ref 153)
noncomputable def Zg7:List Stmt:=[ht 8]
noncomputable def ZT7(P:Params):BT:=(HD.iy [bw,cR,R6 P,af,Od,RU,QL,af,aG,BN,af,OH,BG,CN,af,C0 P,Cc,Rf,QV] ((((ZT6 P).ins (nat_lit 3) (adv P)).ins (nat_lit 12) (U3)).ins (nat_lit 38) (VP)) (nat_lit 137))
noncomputable abbrev ZS7(w:World)(os:OsState):SharedT:=⟨ZT7 w.params,nat_lit 156,gY,Array.mk [],⟨0,0,0,0⟩,nat_lit 359,os⟩
noncomputable def Zq7:HD.iT (HD.F4):=λw=>(λos=>segRunT treeTable pw w (nat_lit 11) (some (.ref 6)) (nat_lit 1) (nat_lit 244) (ZS6 w os) (piecesOf Zg7 dH cu ⟨25,0,28,16⟩ dF),λos=>some (Flow.next,ZS7 w os,cu,⟨29,0,32,16⟩))
theorem ZP:HD.seg pw (nat_lit 11) (some (.ref 6)) (nat_lit 244) ZS6 ZS7 Zg7 dH cu ⟨25,0,28,16⟩ ⟨29,0,32,16⟩ dF=Zq7:=by kernel_rfl
name_quick U2 for Zq7 by ZP
theorem Zi7(w:World):(Fast.U2 w).1=(Fast.U2 w).2:=by kernel_rfl
theorem Zh7:HD.Ok (HD.seg pw (nat_lit 11) (some (.ref 6)) (nat_lit 244) ZS6 ZS7 Zg7 dH cu ⟨25,0,28,16⟩ ⟨29,0,32,16⟩ dF):=HD.iU Fast.U2_eq Zi7
def acu:=HD.dm (adv P) [HD.e P nF 381 (.ref 172)] 18
def U4:=HD.fa (U3) [(HD.i 33),(HD.i 0),(.ref 161)]
def Xc:=HD.sb (VP) [(.ref 172)]
def Oc:=HD.dc [HD.e P cQ 366 (.str bg 194),HD.e P gP 368 (.str nF 367),HD.e P cO 370 (.int (.ofNat 33) 369),HD.e P aV 377 (.ref 169),HD.e P cP 378 (.ref 170)] 5
def O7:=HD.fl [(HD.i 35),(HD.i 4),(.ref 168)]
def Sb:=HD.cd nF nF aU 361 362 363 33 0 0 0 0 159 false 181 160 .none .none .none .none 364 33 365
def Oa:=HD.fm 161 3 158 bg 194
def CZ:=HD.tp [(.str gV 374)]
def Qf:=HD.fs aV Pl (L2.inClass (ht 9) 0)
def CQ:=HD.cd aV Pl aU 371 372 373 35 1 0 0 3 163 true 181 164 .none (.ref 165) (.ref 166) (.ref 167) 375 35 376
def Bd:=HD.fu aV Pl (L2.inClass (ht 9) 0) bg 194 168
def Co:=HD.dc [HD.e P cQ 366 (.str bg 194),HD.e P cO 370 (.int (.ofNat 33) 369),HD.e P aV 377 (.ref 169),HD.e P cP 378 (.ref 170),HD.e P AF 379 .none] 2
def Bz:=HD.cl nF [(.ref 38)] [(.ref 172),(.ref 38),(.type "ValueError"),(.type "Exception"),(.type "BaseException"),(.type "object")] 171 [] 156 359 367 (.builtin "ValueError.__new__")
def RD:=HD.su 172
def R4:=HD.bm (.builtin "object.__init_subclass__") (.ref 172)
noncomputable def Zg8:List Stmt:=[ht 9]
noncomputable def ZT8(P:Params):BT:=(HD.iy [bw,cR,Oc P,af,O7,Sb,Oa,af,aG,CZ,af,Qf,CQ,Bd,af,Co P,Bz,RD,R4] ((((ZT7 P).ins (nat_lit 3) (acu P)).ins (nat_lit 12) (U4)).ins (nat_lit 38) (Xc)) (nat_lit 156))
noncomputable abbrev ZS8(w:World)(os:OsState):SharedT:=⟨ZT8 w.params,nat_lit 175,gY,Array.mk [],⟨0,0,0,0⟩,nat_lit 382,os⟩
noncomputable def Zq8:HD.iT (HD.F4):=λw=>(λos=>segRunT treeTable pw w (nat_lit 11) (some (.ref 6)) (nat_lit 1) (nat_lit 244) (ZS7 w os) (piecesOf Zg8 dH cu ⟨29,0,32,16⟩ dF),λos=>some (Flow.next,ZS8 w os,cu,⟨33,0,36,16⟩))
theorem aal:HD.seg pw (nat_lit 11) (some (.ref 6)) (nat_lit 244) ZS7 ZS8 Zg8 dH cu ⟨29,0,32,16⟩ ⟨33,0,36,16⟩ dF=Zq8:=by kernel_rfl
name_quick Vq for Zq8 by aal
theorem Zi8(w:World):(Fast.Vq w).1=(Fast.Vq w).2:=by kernel_rfl
theorem Zh8:HD.Ok (HD.seg pw (nat_lit 11) (some (.ref 6)) (nat_lit 244) ZS7 ZS8 Zg8 dH cu ⟨29,0,32,16⟩ ⟨33,0,36,16⟩ dF):=HD.iU Fast.Vq_eq Zi8
def adj:=HD.dm (acu P) [HD.e P ni 404 (.ref 191)] 19
def Vc:=HD.fa (U4) [(HD.i 37),(HD.i 0),(.ref 180)]
def UY:=HD.sb (Xc) [(.ref 191)]
def Pw:=HD.dc [HD.e P cQ 389 (.str bg 194),HD.e P gP 391 (.str ni 390),HD.e P cO 393 (.int (.ofNat 37) 392),HD.e P aV 400 (.ref 188),HD.e P cP 401 (.ref 189)] 5
def Oj:=HD.fl [(HD.i 39),(HD.i 4),(.ref 187)]
def PU:=HD.cd ni ni aU 384 385 386 37 0 0 0 0 178 false 181 179 .none .none .none .none 387 37 388
def OB:=HD.fm 180 3 177 bg 194
def Cg:=HD.tp [(.str gV 397)]
def NU:=HD.fs aV RJ (L2.inClass (ht 10) 0)
def Cs:=HD.cd aV RJ aU 394 395 396 39 1 0 0 3 182 true 181 183 .none (.ref 184) (.ref 185) (.ref 186) 398 39 399
def CL:=HD.fu aV RJ (L2.inClass (ht 10) 0) bg 194 187
def C1:=HD.dc [HD.e P cQ 389 (.str bg 194),HD.e P cO 393 (.int (.ofNat 37) 392),HD.e P aV 400 (.ref 188),HD.e P cP 401 (.ref 189),HD.e P AF 402 .none] 2
def BQ:=HD.cl ni [(.ref 38)] [(.ref 191),(.ref 38),(.type "ValueError"),(.type "Exception"),(.type "BaseException"),(.type "object")] 190 [] 175 382 390 (.builtin "ValueError.__new__")
def O8:=HD.su 191
def P8:=HD.bm (.builtin "object.__init_subclass__") (.ref 191)
noncomputable def Zg9:List Stmt:=[ht 10]
noncomputable def ZT9(P:Params):BT:=(HD.iy [bw,cR,Pw P,af,Oj,PU,OB,af,aG,Cg,af,NU,Cs,CL,af,C1 P,BQ,O8,P8] ((((ZT8 P).ins (nat_lit 3) (adj P)).ins (nat_lit 12) (Vc)).ins (nat_lit 38) (UY)) (nat_lit 175))
noncomputable abbrev ZS9(w:World)(os:OsState):SharedT:=⟨ZT9 w.params,nat_lit 194,gY,Array.mk [],⟨0,0,0,0⟩,nat_lit 405,os⟩
noncomputable def Zq9:HD.iT (HD.F4):=λw=>(λos=>segRunT treeTable pw w (nat_lit 11) (some (.ref 6)) (nat_lit 1) (nat_lit 244) (ZS8 w os) (piecesOf Zg9 dH cu ⟨33,0,36,16⟩ dF),λos=>some (Flow.next,ZS9 w os,cu,⟨37,0,40,16⟩))
theorem Ys:HD.seg pw (nat_lit 11) (some (.ref 6)) (nat_lit 244) ZS8 ZS9 Zg9 dH cu ⟨33,0,36,16⟩ ⟨37,0,40,16⟩ dF=Zq9:=by kernel_rfl
name_quick V8 for Zq9 by Ys
theorem Zi9(w:World):(Fast.V8 w).1=(Fast.V8 w).2:=by kernel_rfl
theorem Zh9:HD.Ok (HD.seg pw (nat_lit 11) (some (.ref 6)) (nat_lit 244) ZS8 ZS9 Zg9 dH cu ⟨33,0,36,16⟩ ⟨37,0,40,16⟩ dF):=HD.iU Fast.V8_eq Zi9
def W4:=HD.dm (adj P) [HD.e P om 427 (.ref 210)] 20
def RY:=HD.fa (Vc) [(HD.i 41),(HD.i 0),(.ref 199)]
def PZ:=HD.sb (UY) [(.ref 210)]
def HV:=HD.dc [HD.e P cQ 412 (.str bg 194),HD.e P gP 414 (.str om 413),HD.e P cO 416 (.int (.ofNat 41) 415),HD.e P aV 423 (.ref 207),HD.e P cP 424 (.ref 208)] 5
def J9:=HD.fl [(HD.i 43),(HD.i 4),(.ref 206)]
def Kp:=HD.cd om om aU 407 408 409 41 0 0 0 0 197 false 181 198 .none .none .none .none 410 41 411
def Jf:=HD.fm 199 3 196 bg 194
def wV:=HD.tp [(.str gV 420)]
def LB:=HD.fs aV QG (L2.inClass (ht 11) 0)
def uD:=HD.cd aV QG aU 417 418 419 43 1 0 0 3 201 true 181 202 .none (.ref 203) (.ref 204) (.ref 205) 421 43 422
def vG:=HD.fu aV QG (L2.inClass (ht 11) 0) bg 194 206
def uo:=HD.dc [HD.e P cQ 412 (.str bg 194),HD.e P cO 416 (.int (.ofNat 41) 415),HD.e P aV 423 (.ref 207),HD.e P cP 424 (.ref 208),HD.e P AF 425 .none] 2
def vb:=HD.cl om [(.ref 38)] [(.ref 210),(.ref 38),(.type "ValueError"),(.type "Exception"),(.type "BaseException"),(.type "object")] 209 [] 194 405 413 (.builtin "ValueError.__new__")
def LF:=HD.su 210
def KY:=HD.bm (.builtin "object.__init_subclass__") (.ref 210)
noncomputable def SR:List Stmt:=[ht 11]
noncomputable def abK(P:Params):BT:=(HD.iy [bw,cR,HV P,af,J9,Kp,Jf,af,aG,wV,af,LB,uD,vG,af,uo P,vb,LF,KY] ((((ZT9 P).ins (nat_lit 3) (W4 P)).ins (nat_lit 12) (RY)).ins (nat_lit 38) (PZ)) (nat_lit 194))
noncomputable abbrev Me(w:World)(os:OsState):SharedT:=⟨abK w.params,nat_lit 213,gY,Array.mk [],⟨0,0,0,0⟩,nat_lit 428,os⟩
noncomputable def ac5:HD.iT (HD.F4):=λw=>(λos=>segRunT treeTable pw w (nat_lit 11) (some (.ref 6)) (nat_lit 1) (nat_lit 244) (ZS9 w os) (piecesOf SR dH cu ⟨37,0,40,16⟩ dF),λos=>some (Flow.next,Me w os,cu,⟨41,0,44,16⟩))
theorem Tt:HD.seg pw (nat_lit 11) (some (.ref 6)) (nat_lit 244) ZS9 Me SR dH cu ⟨37,0,40,16⟩ ⟨41,0,44,16⟩ dF=ac5:=by kernel_rfl
name_quick Q7 for ac5 by Tt
theorem aeQ(w:World):(Fast.Q7 w).1=(Fast.Q7 w).2:=by kernel_rfl
theorem aft:HD.Ok (HD.seg pw (nat_lit 11) (some (.ref 6)) (nat_lit 244) ZS9 Me SR dH cu ⟨37,0,40,16⟩ ⟨41,0,44,16⟩ dF):=HD.iU Fast.Q7_eq aeQ
def V_:=HD.dm (W4 P) [HD.e P mr 450 (.ref 229)] 21
def Oq:=HD.fa (RY) [(HD.i 45),(HD.i 0),(.ref 218)]
def Rm:=HD.sb (PZ) [(.ref 229)]
def Js:=HD.dc [HD.e P cQ 435 (.str bg 194),HD.e P gP 437 (.str mr 436),HD.e P cO 439 (.int (.ofNat 45) 438),HD.e P aV 446 (.ref 226),HD.e P cP 447 (.ref 227)] 5
def K4:=HD.fl [(HD.i 47),(HD.i 4),(.ref 225)]
def HI:=HD.cd mr mr aU 430 431 432 45 0 0 0 0 216 false 181 217 .none .none .none .none 433 45 434
def Kd:=HD.fm 218 3 215 bg 194
def uL:=HD.tp [(.str gV 443)]
def Jn:=HD.fs aV N9 (L2.inClass (ht 12) 0)
def uz:=HD.cd aV N9 aU 440 441 442 47 1 0 0 3 220 true 181 221 .none (.ref 222) (.ref 223) (.ref 224) 444 47 445
def uQ:=HD.fu aV N9 (L2.inClass (ht 12) 0) bg 194 225
def uZ:=HD.dc [HD.e P cQ 435 (.str bg 194),HD.e P cO 439 (.int (.ofNat 45) 438),HD.e P aV 446 (.ref 226),HD.e P cP 447 (.ref 227),HD.e P AF 448 .none] 2
def uq:=HD.cl mr [(.ref 38)] [(.ref 229),(.ref 38),(.type "ValueError"),(.type "Exception"),(.type "BaseException"),(.type "object")] 228 [] 213 428 436 (.builtin "ValueError.__new__")
def Lu:=HD.su 229
def Ig:=HD.bm (.builtin "object.__init_subclass__") (.ref 229)
noncomputable def UP:List Stmt:=[ht 12]
noncomputable def adn(P:Params):BT:=(HD.iy [bw,cR,Js P,af,K4,HI,Kd,af,aG,uL,af,Jn,uz,uQ,af,uZ P,uq,Lu,Ig] ((((abK P).ins (nat_lit 3) (V_ P)).ins (nat_lit 12) (Oq)).ins (nat_lit 38) (Rm)) (nat_lit 213))
noncomputable abbrev Ma(w:World)(os:OsState):SharedT:=⟨adn w.params,nat_lit 232,gY,Array.mk [],⟨0,0,0,0⟩,nat_lit 451,os⟩
noncomputable def adt:HD.iT (HD.F4):=λw=>(λos=>segRunT treeTable pw w (nat_lit 11) (some (.ref 6)) (nat_lit 1) (nat_lit 244) (Me w os) (piecesOf UP dH cu ⟨41,0,44,16⟩ dF),λos=>some (Flow.next,Ma w os,cu,⟨45,0,48,17⟩))
theorem Ts:HD.seg pw (nat_lit 11) (some (.ref 6)) (nat_lit 244) Me Ma UP dH cu ⟨41,0,44,16⟩ ⟨45,0,48,17⟩ dF=adt:=by kernel_rfl
name_quick PQ for adt by Ts
theorem ad1(w:World):(Fast.PQ w).1=(Fast.PQ w).2:=by kernel_rfl
theorem aeb:HD.Ok (HD.seg pw (nat_lit 11) (some (.ref 6)) (nat_lit 244) Me Ma UP dH cu ⟨41,0,44,16⟩ ⟨45,0,48,17⟩ dF):=HD.iU Fast.PQ_eq ad1
def VD:=HD.dm (V_ P) [HD.e P nK 473 (.ref 248)] 22
def RC:=HD.fa (Oq) [(HD.i 49),(HD.i 0),(.ref 237)]
def OG:=HD.sb (Rm) [(.ref 248)]
def K0:=HD.dc [HD.e P cQ 458 (.str bg 194),HD.e P gP 460 (.str nK 459),HD.e P cO 462 (.int (.ofNat 49) 461),HD.e P aV 469 (.ref 245),HD.e P cP 470 (.ref 246)] 5
def LC:=HD.fl [(HD.i 51),(HD.i 4),(.ref 244)]
def JK:=HD.cd nK nK aU 453 454 455 49 0 0 0 0 235 false 181 236 .none .none .none .none 456 49 457
def KR:=HD.fm 237 3 234 bg 194
def vp:=HD.tp [(.str gV 466)]
def JQ:=HD.fs aV Qt (L2.inClass (ht 13) 0)
def xc:=HD.cd aV Qt aU 463 464 465 51 1 0 0 3 239 true 181 240 .none (.ref 241) (.ref 242) (.ref 243) 467 51 468
def uS:=HD.fu aV Qt (L2.inClass (ht 13) 0) bg 194 244
def sO:=HD.dc [HD.e P cQ 458 (.str bg 194),HD.e P cO 462 (.int (.ofNat 49) 461),HD.e P aV 469 (.ref 245),HD.e P cP 470 (.ref 246),HD.e P AF 471 .none] 2
def wN:=HD.cl nK [(.ref 38)] [(.ref 248),(.ref 38),(.type "ValueError"),(.type "Exception"),(.type "BaseException"),(.type "object")] 247 [] 232 451 459 (.builtin "ValueError.__new__")
def HG:=HD.su 248
def JP:=HD.bm (.builtin "object.__init_subclass__") (.ref 248)
noncomputable def Uw:List Stmt:=[ht 13]
noncomputable def acL(P:Params):BT:=(HD.iy [bw,cR,K0 P,af,LC,JK,KR,af,aG,vp,af,JQ,xc,uS,af,sO P,wN,HG,JP] ((((adn P).ins (nat_lit 3) (VD P)).ins (nat_lit 12) (RC)).ins (nat_lit 38) (OG)) (nat_lit 232))
noncomputable abbrev MJ(w:World)(os:OsState):SharedT:=⟨acL w.params,nat_lit 251,gY,Array.mk [],⟨0,0,0,0⟩,nat_lit 474,os⟩
noncomputable def abo:HD.iT (HD.F4):=λw=>(λos=>segRunT treeTable pw w (nat_lit 11) (some (.ref 6)) (nat_lit 1) (nat_lit 244) (Ma w os) (piecesOf Uw dH cu ⟨45,0,48,17⟩ dF),λos=>some (Flow.next,MJ w os,cu,⟨49,0,52,17⟩))
theorem Sx:HD.seg pw (nat_lit 11) (some (.ref 6)) (nat_lit 244) Ma MJ Uw dH cu ⟨45,0,48,17⟩ ⟨49,0,52,17⟩ dF=abo:=by kernel_rfl
name_quick PJ for abo by Sx
theorem aem(w:World):(Fast.PJ w).1=(Fast.PJ w).2:=by kernel_rfl
theorem adY:HD.Ok (HD.seg pw (nat_lit 11) (some (.ref 6)) (nat_lit 244) Ma MJ Uw dH cu ⟨45,0,48,17⟩ ⟨49,0,52,17⟩ dF):=HD.iU Fast.PJ_eq aem
def WO:=HD.dm (VD P) [HD.e P nY 496 (.ref 267)] 23
def QW:=HD.fa (RC) [(HD.i 53),(HD.i 0),(.ref 256)]
def Ro:=HD.sb (OG) [(.ref 267)]
def Le:=HD.dc [HD.e P cQ 481 (.str bg 194),HD.e P gP 483 (.str nY 482),HD.e P cO 485 (.int (.ofNat 53) 484),HD.e P aV 492 (.ref 264),HD.e P cP 493 (.ref 265)] 5
def Lq:=HD.fl [(HD.i 55),(HD.i 4),(.ref 263)]
def IV:=HD.cd nY nY aU 476 477 478 53 0 0 0 0 254 false 181 255 .none .none .none .none 479 53 480
def Lr:=HD.fm 256 3 253 bg 194
def tP:=HD.tp [(.str gV 489)]
def Km:=HD.fs aV NX (L2.inClass (ht 14) 0)
def wB:=HD.cd aV NX aU 486 487 488 55 1 0 0 3 258 true 181 259 .none (.ref 260) (.ref 261) (.ref 262) 490 55 491
def vv:=HD.fu aV NX (L2.inClass (ht 14) 0) bg 194 263
def sM:=HD.dc [HD.e P cQ 481 (.str bg 194),HD.e P cO 485 (.int (.ofNat 53) 484),HD.e P aV 492 (.ref 264),HD.e P cP 493 (.ref 265),HD.e P AF 494 .none] 2
def vF:=HD.cl nY [(.ref 38)] [(.ref 267),(.ref 38),(.type "ValueError"),(.type "Exception"),(.type "BaseException"),(.type "object")] 266 [] 251 474 482 (.builtin "ValueError.__new__")
def Kw:=HD.su 267
def Jt:=HD.bm (.builtin "object.__init_subclass__") (.ref 267)
noncomputable def UK:List Stmt:=[ht 14]
noncomputable def abT(P:Params):BT:=(HD.iy [bw,cR,Le P,af,Lq,IV,Lr,af,aG,tP,af,Km,wB,vv,af,sM P,vF,Kw,Jt] ((((acL P).ins (nat_lit 3) (WO P)).ins (nat_lit 12) (QW)).ins (nat_lit 38) (Ro)) (nat_lit 251))
noncomputable abbrev Nr(w:World)(os:OsState):SharedT:=⟨abT w.params,nat_lit 270,gY,Array.mk [],⟨0,0,0,0⟩,nat_lit 497,os⟩
noncomputable def acz:HD.iT (HD.F4):=λw=>(λos=>segRunT treeTable pw w (nat_lit 11) (some (.ref 6)) (nat_lit 1) (nat_lit 244) (MJ w os) (piecesOf UK dH cu ⟨49,0,52,17⟩ dF),λos=>some (Flow.next,Nr w os,cu,⟨53,0,56,17⟩))
theorem Ut:HD.seg pw (nat_lit 11) (some (.ref 6)) (nat_lit 244) MJ Nr UK dH cu ⟨49,0,52,17⟩ ⟨53,0,56,17⟩ dF=acz:=by kernel_rfl
name_quick RT for acz by Ut
theorem ad4(w:World):(Fast.RT w).1=(Fast.RT w).2:=by kernel_rfl
theorem adU:HD.Ok (HD.seg pw (nat_lit 11) (some (.ref 6)) (nat_lit 244) MJ Nr UK dH cu ⟨49,0,52,17⟩ ⟨53,0,56,17⟩ dF):=HD.iU Fast.RT_eq ad4
def ab9:=HD.dm (WO P) [HD.e P mK 519 (.ref 286)] 24
def RO:=HD.fa (QW) [(HD.i 57),(HD.i 0),(.ref 275)]
def NI:=HD.sb (Ro) [(.ref 286)]
def Kz:=HD.dc [HD.e P cQ 504 (.str bg 194),HD.e P gP 506 (.str mK 505),HD.e P cO 508 (.int (.ofNat 57) 507),HD.e P aV 515 (.ref 283),HD.e P cP 516 (.ref 284)] 5
def KQ:=HD.fl [(HD.i 59),(HD.i 4),(.ref 282)]
def Lw:=HD.cd mK mK aU 499 500 501 57 0 0 0 0 273 false 181 274 .none .none .none .none 502 57 503
def Jb:=HD.fm 275 3 272 bg 194
def uN:=HD.tp [(.str gV 512)]
def IW:=HD.fs aV QN (L2.inClass (ht 15) 0)
def rR:=HD.cd aV QN aU 509 510 511 59 1 0 0 3 277 true 181 278 .none (.ref 279) (.ref 280) (.ref 281) 513 59 514
def vO:=HD.fu aV QN (L2.inClass (ht 15) 0) bg 194 282
def ve:=HD.dc [HD.e P cQ 504 (.str bg 194),HD.e P cO 508 (.int (.ofNat 57) 507),HD.e P aV 515 (.ref 283),HD.e P cP 516 (.ref 284),HD.e P AF 517 .none] 2
def wy:=HD.cl mK [(.ref 38)] [(.ref 286),(.ref 38),(.type "ValueError"),(.type "Exception"),(.type "BaseException"),(.type "object")] 285 [] 270 497 505 (.builtin "ValueError.__new__")
def Kh:=HD.su 286
def Ip:=HD.bm (.builtin "object.__init_subclass__") (.ref 286)
noncomputable def Tf:List Stmt:=[ht 15]
noncomputable def abi(P:Params):BT:=(HD.iy [bw,cR,Kz P,af,KQ,Lw,Jb,af,aG,uN,af,IW,rR,vO,af,ve P,wy,Kh,Ip] ((((abT P).ins (nat_lit 3) (ab9 P)).ins (nat_lit 12) (RO)).ins (nat_lit 38) (NI)) (nat_lit 270))
noncomputable abbrev Md(w:World)(os:OsState):SharedT:=⟨abi w.params,nat_lit 289,gY,Array.mk [],⟨0,0,0,0⟩,nat_lit 520,os⟩
noncomputable def adM:HD.iT (HD.F4):=λw=>(λos=>segRunT treeTable pw w (nat_lit 11) (some (.ref 6)) (nat_lit 1) (nat_lit 244) (Nr w os) (piecesOf Tf dH cu ⟨53,0,56,17⟩ dF),λos=>some (Flow.next,Md w os,cu,⟨57,0,60,17⟩))
theorem Uq:HD.seg pw (nat_lit 11) (some (.ref 6)) (nat_lit 244) Nr Md Tf dH cu ⟨53,0,56,17⟩ ⟨57,0,60,17⟩ dF=adM:=by kernel_rfl
name_quick QC for adM by Uq
theorem aed(w:World):(Fast.QC w).1=(Fast.QC w).2:=by kernel_rfl
theorem aeN:HD.Ok (HD.seg pw (nat_lit 11) (some (.ref 6)) (nat_lit 244) Nr Md Tf dH cu ⟨53,0,56,17⟩ ⟨57,0,60,17⟩ dF):=HD.iU Fast.QC_eq aed
def V6:=HD.dc [HD.e P Zx0 165 (.str qE 543),HD.e P AF 166 .none,HD.e P Zx3 167 .none,HD.e P Zx4 168 (.builtin "__main__.__loader__#opaque"),HD.e P Zx5 169 .none,HD.e P EL 170 (.ref 6),HD.e P Ff 171 (.ref 4),HD.e P E1 173 (.str aU 172),HD.e P E3 174 .none,HD.e P kg 193 (.ref 21),HD.e P nA 220 (.ref 38),HD.e P mJ 243 (.ref 58),HD.e P nE 266 (.ref 77),HD.e P m7 289 (.ref 96),HD.e P nB 312 (.ref 115),HD.e P mU 335 (.ref 134),HD.e P mO 358 (.ref 153),HD.e P nF 381 (.ref 172),HD.e P ni 404 (.ref 191),HD.e P om 427 (.ref 210),HD.e P mr 450 (.ref 229),HD.e P nK 473 (.ref 248),HD.e P nY 496 (.ref 267),HD.e P mK 519 (.ref 286),HD.e P pZ 542 (.ref 305),HD.e P Ju 546 (.int (.ofNat 600) 545),HD.e P Jh 548 (.int (.ofNat 40) 547),HD.e P HL 550 (.int (.ofNat 99) 549)] 28
def RL:=HD.fa (RO) [(HD.i 61),(HD.i 0),(.ref 294)]
def BD:=HD.sb (NI) [(.ref 305)]
def Jo:=HD.dc [HD.e P cQ 527 (.str bg 194),HD.e P gP 529 (.str pZ 528),HD.e P cO 531 (.int (.ofNat 61) 530),HD.e P aV 538 (.ref 302),HD.e P cP 539 (.ref 303)] 5
def Lj:=HD.fl [(HD.i 63),(HD.i 4),(.ref 301)]
def JR:=HD.cd pZ pZ aU 522 523 524 61 0 0 0 0 292 false 181 293 .none .none .none .none 525 61 526
def JJ:=HD.fm 294 3 291 bg 194
def uJ:=HD.tp [(.str gV 535)]
def Jd:=HD.fs aV R9 (L2.inClass (ht 16) 0)
def wG:=HD.cd aV R9 aU 532 533 534 63 1 0 0 3 296 true 181 297 .none (.ref 298) (.ref 299) (.ref 300) 536 63 537
def wZ:=HD.fu aV R9 (L2.inClass (ht 16) 0) bg 194 301
def ue:=HD.dc [HD.e P cQ 527 (.str bg 194),HD.e P cO 531 (.int (.ofNat 61) 530),HD.e P aV 538 (.ref 302),HD.e P cP 539 (.ref 303),HD.e P AF 540 .none] 2
def uh:=HD.cl pZ [(.ref 38)] [(.ref 305),(.ref 38),(.type "ValueError"),(.type "Exception"),(.type "BaseException"),(.type "object")] 304 [] 289 520 528 (.builtin "ValueError.__new__")
def Lx:=HD.su 305
def IQ:=HD.bm (.builtin "object.__init_subclass__") (.ref 305)
noncomputable def TN:List Stmt:=[ht 16,ht 17,ht 18,ht 19,ht 20]
noncomputable def ac9(P:Params):BT:=(HD.iy [bw,cR,Jo P,af,Lj,JR,JJ,af,aG,uJ,af,Jd,wG,wZ,af,ue P,uh,Lx,IQ] ((((abi P).ins (nat_lit 3) (V6 P)).ins (nat_lit 12) (RL)).ins (nat_lit 38) (BD)) (nat_lit 289))
noncomputable abbrev Fo(w:World)(os:OsState):SharedT:=⟨ac9 w.params,nat_lit 308,gY,Array.mk [],⟨0,0,0,0⟩,nat_lit 551,os⟩
noncomputable def ady:HD.iT (HD.F4):=λw=>(λos=>segRunT treeTable pw w (nat_lit 11) (some (.ref 6)) (nat_lit 1) (nat_lit 280) (Md w os) (piecesOf TN dH cu ⟨57,0,60,17⟩ dF),λos=>some (Flow.next,Fo w os,cu,⟨68,0,68,13⟩))
theorem TF:HD.seg pw (nat_lit 11) (some (.ref 6)) (nat_lit 280) Md Fo TN dH cu ⟨57,0,60,17⟩ ⟨68,0,68,13⟩ dF=ady:=by kernel_rfl
name_quick R8 for ady by TF
theorem adZ(w:World):(Fast.R8 w).1=(Fast.R8 w).2:=by kernel_rfl
theorem adW:HD.Ok (HD.seg pw (nat_lit 11) (some (.ref 6)) (nat_lit 280) Md Fo TN dH cu ⟨57,0,60,17⟩ ⟨68,0,68,13⟩ dF):=HD.iU Fast.R8_eq adZ
def aa0:=HD.dm (V6 P) [HD.e P IA 615 (.ref 308)] 29
def vh:=HD.dc [HD.e P acT 551 (.ref 309),HD.e P acm 553 (.ref 310),HD.e P Zx9 555 (.ref 311),HD.e P Vy 559 (.ref 312),HD.e P aa3 563 (.ref 313),HD.e P acB 568 (.ref 314),HD.e P Il 570 (.ref 315),HD.e P Wj 574 (.ref 316),HD.e P Pg 578 (.ref 317),HD.e P Zi 580 (.ref 318),HD.e P RF 583 (.ref 319),HD.e P Rl 589 (.ref 320),HD.e P Ru 593 (.ref 321),HD.e P abh 598 (.ref 322),HD.e P O0 602 (.ref 323),HD.e P NJ 607 (.ref 324),HD.e P Pd 610 (.ref 325),HD.e P Wd 613 (.ref 327)] 18
def vT:=HD.tp [(.str kb 556),(.str kb 557)]
def uH:=HD.tp [(.str kb 560),(.str kb 561)]
def vP:=HD.tp [(.str kb 564),(.str fU 565),(.str fU 566)]
def v_:=HD.tp [(.str kb 571),(.str fU 572)]
def uu:=HD.tp [(.str fU 575),(.str fU 576)]
def uV:=HD.tp [(.str fU 581)]
def s_:=HD.tp [(.str kb 584),(.str fU 585),(.str fU 586),(.str fU 587)]
def sW:=HD.tp [(.str kb 590),(.str fU 591)]
def vN:=HD.tp [(.str kb 594),(.str fU 595),(.str fU 596)]
def sU:=HD.tp [(.str kb 599),(.str fU 600)]
def vj:=HD.tp [(.str kb 603),(.str fU 604),(.str fU 605)]
def tJ:=HD.tp [(.str fU 608)]
def sN:=HD.tp [(.str fU 611)]
def Ks:=HD.dc [HD.e P Wd 613 (.ref 327)] 1
noncomputable def Ms:List Stmt:=[ht 21]
noncomputable def acS(P:Params):BT:=(HD.iy [vh P,af,af,vT,uH,vP,af,v_,uu,af,uV,s_,sW,vN,sU,vj,tJ,sN,Ks P,af] ((ac9 P).ins (nat_lit 3) (aa0 P)) (nat_lit 308))
noncomputable abbrev zo(w:World)(os:OsState):SharedT:=⟨acS w.params,nat_lit 328,gY,Array.mk [],⟨0,0,0,0⟩,nat_lit 616,os⟩
noncomputable def Wb:HD.iT (HD.F4):=λw=>(λos=>segRunT treeTable pw (w.withFollow "special-get-raises" false) (nat_lit 11) (some (.ref 6)) (nat_lit 1) (nat_lit 340) (Fo (w.withFollow "special-get-raises" false) os) (piecesOf Ms dH cu ⟨68,0,68,13⟩ dF),λos=>some (Flow.next,zo (w.withFollow "special-get-raises" false) os,cu,⟨69,0,69,8⟩))
theorem Rb:(λw:World=>HD.seg pw (nat_lit 11) (some (.ref 6)) (nat_lit 340) Fo zo Ms dH cu ⟨68,0,68,13⟩ ⟨69,0,69,8⟩ dF (w.withFollow "special-get-raises" false))=Wb:=by kernel_rfl
name_quick JD for Wb by Rb
theorem ac6(w:World):(Fast.JD w).1=(Fast.JD w).2:=by kernel_rfl
noncomputable def VJ:HD.iT (HD.F4):=λw=>(λos=>segRunT treeTable pw (w.withFollow "special-get-raises" true) (nat_lit 11) (some (.ref 6)) (nat_lit 1) (nat_lit 340) (Fo (w.withFollow "special-get-raises" true) os) (piecesOf Ms dH cu ⟨68,0,68,13⟩ dF),λos=>some (Flow.next,zo (w.withFollow "special-get-raises" true) os,cu,⟨69,0,69,8⟩))
theorem Rk:(λw:World=>HD.seg pw (nat_lit 11) (some (.ref 6)) (nat_lit 340) Fo zo Ms dH cu ⟨68,0,68,13⟩ ⟨69,0,69,8⟩ dF (w.withFollow "special-get-raises" true))=VJ:=by kernel_rfl
name_quick Jk for VJ by Rk
theorem acF(w:World):(Fast.Jk w).1=(Fast.Jk w).2:=by kernel_rfl
theorem aen:HD.Ok (HD.seg pw (nat_lit 11) (some (.ref 6)) (nat_lit 340) Fo zo Ms dH cu ⟨68,0,68,13⟩ ⟨69,0,69,8⟩ dF):=HD.FF "special-get-raises" Fast.JD_eq Fast.Jk_eq ac6 acF
def acP:=HD.dc [HD.e P Zx0 165 (.str Ed 679),HD.e P AF 166 .none,HD.e P Zx3 167 .none,HD.e P Zx4 168 (.builtin "__main__.__loader__#opaque"),HD.e P Zx5 169 .none,HD.e P EL 170 (.ref 6),HD.e P Ff 171 (.ref 4),HD.e P E1 173 (.str aU 172),HD.e P E3 174 .none,HD.e P kg 193 (.ref 21),HD.e P nA 220 (.ref 38),HD.e P mJ 243 (.ref 58),HD.e P nE 266 (.ref 77),HD.e P m7 289 (.ref 96),HD.e P nB 312 (.ref 115),HD.e P mU 335 (.ref 134),HD.e P mO 358 (.ref 153),HD.e P nF 381 (.ref 172),HD.e P ni 404 (.ref 191),HD.e P om 427 (.ref 210),HD.e P mr 450 (.ref 229),HD.e P nK 473 (.ref 248),HD.e P nY 496 (.ref 267),HD.e P mK 519 (.ref 286),HD.e P pZ 542 (.ref 305),HD.e P Ju 546 (.int (.ofNat 600) 545),HD.e P Jh 548 (.int (.ofNat 40) 547),HD.e P HL 550 (.int (.ofNat 99) 549),HD.e P IA 615 (.ref 308),HD.e P Pf 631 (.ref 328),HD.e P my 638 (.ref 335),HD.e P oq 644 (.ref 340),HD.e P mX 651 (.ref 347),HD.e P mM 657 (.ref 352),HD.e P nW 663 (.ref 357),HD.e P mV 670 (.ref 364),HD.e P mq 678 (.ref 371),HD.e P ou 689 (.ref 378),HD.e P nq 699 (.ref 385),HD.e P n_ 710 (.ref 392)] 40
def Q2:=HD.fa (RL) [(HD.i 71),(HD.i 0),(.ref 334),(HD.i 73),(HD.i 0),(.ref 339),(HD.i 85),(HD.i 0),(.ref 346),(HD.i 89),(HD.i 0),(.ref 351),(HD.i 92),(HD.i 0),(.ref 356),(HD.i 96),(HD.i 0),(.ref 363),(HD.i 100),(HD.i 0),(.ref 370),(HD.i 105),(HD.i 0),(.ref 377),(HD.i 110),(HD.i 0),(.ref 384),(HD.i 115),(HD.i 0),(.ref 391)]
def wL:=HD.dc [HD.e P Zx9 616 (.int (.ofNat 1) 617),HD.e P Vy 618 (.int (.ofNat 1) 619),HD.e P Il 620 (.int (.ofNat 1) 621),HD.e P RF 622 (.int (.ofNat 0) 623),HD.e P Ru 624 (.int (.ofNat 0) 625)] 5
def sZ:=HD.tp [(.str aaX 635)]
def IZ:=HD.fs my my (ht 23)
def wH:=HD.cd my my aU 632 633 634 71 1 0 0 3 329 true 181 330 .none (.ref 331) (.ref 332) (.ref 333) 636 71 637
def sR:=HD.fu my my (ht 23) qE 543 334
def KO:=HD.fs oq oq (ht 24)
def tH:=HD.cd oq oq aU 639 640 641 73 1 0 0 3 336 true 181 337 .none .none .none (.ref 338) 642 73 643
def tR:=HD.fu oq oq (ht 24) qE 543 339
def wQ:=HD.tp [(.str gB 648)]
def IS:=HD.fs mX mX (ht 25)
def tV:=HD.cd mX mX aU 645 646 647 85 1 0 0 3 341 true 181 342 .none (.ref 343) (.ref 344) (.ref 345) 649 85 650
def wx:=HD.fu mX mX (ht 25) qE 543 346
def Lk:=HD.fs mM mM (ht 26)
def ug:=HD.cd mM mM aU 652 653 654 89 1 0 0 3 348 true 181 349 .none .none .none (.ref 350) 655 89 656
def rF:=HD.fu mM mM (ht 26) qE 543 351
def Kk:=HD.fs nW nW (ht 27)
def rK:=HD.cd nW nW aU 658 659 660 92 1 0 0 3 353 true 181 354 .none .none .none (.ref 355) 661 92 662
def vH:=HD.fu nW nW (ht 27) qE 543 356
def uW:=HD.tp [(.str gB 667)]
def Ln:=HD.fs mV mV (ht 28)
def wt:=HD.cd mV mV aU 664 665 666 96 1 0 0 3 358 true 181 359 .none (.ref 360) (.ref 361) (.ref 362) 668 96 669
def tF:=HD.fu mV mV (ht 28) qE 543 363
def sk:=HD.tp [(.str gB 674),(.str OM 675)]
def KG:=HD.fs mq mq (ht 29)
def uB:=HD.cd mq mq aU 671 672 673 100 2 0 0 3 365 true 181 366 .none (.ref 367) (.ref 368) (.ref 369) 676 100 677
def rH:=HD.fu mq mq (ht 29) qE 543 370
def tQ:=HD.tp [(.str gB 684),(.str Lh 685),(.str OM 686)]
def IX:=HD.fs ou ou (ht 31)
def wa:=HD.cd ou ou aU 681 682 683 105 2 0 0 3 372 true 181 373 .none (.ref 374) (.ref 375) (.ref 376) 687 105 688
def sE:=HD.fu ou ou (ht 31) Ed 679 377
def uR:=HD.tp [(.str gB 693),(.str J8 694),(.str Qe 695),(.str Lh 696)]
def Lv:=HD.fs nq nq (ht 32)
def wM:=HD.cd nq nq aU 690 691 692 110 2 0 0 3 379 true 181 380 .none (.ref 381) (.ref 382) (.ref 383) 697 110 698
def sG:=HD.fu nq nq (ht 32) Ed 679 384
def tD:=HD.tp [(.str gB 703),(.str J8 704),(.str Wa 705),(.str Vs 706),(.str OM 707)]
def HN:=HD.fs n_ n_ (ht 33)
def vy:=HD.cd n_ n_ aU 700 701 702 115 3 0 0 3 386 true 181 387 .none (.ref 388) (.ref 389) (.ref 390) 708 115 709
def u7:=HD.fu n_ n_ (ht 33) Ed 679 391
noncomputable def Nc:List Stmt:=[ht 22,ht 23,ht 24,ht 25,ht 26,ht 27,ht 28,ht 29,ht 30,ht 31,ht 32,ht 33]
noncomputable def abU(P:Params):BT:=(HD.iy [wL P,af,aG,sZ,af,IZ,wH,sR,af,aG,KO,tH,tR,af,aG,wQ,af,IS,tV,wx,af,aG,Lk,ug,rF,af,aG,Kk,rK,vH,af,aG,uW,af,Ln,wt,tF,af,aG,sk,af,KG,uB,rH,af,aG,tQ,af,IX,wa,sE,af,aG,uR,af,Lv,wM,sG,af,aG,tD,af,HN,vy,u7] (((acS P).ins (nat_lit 3) (acP P)).ins (nat_lit 12) (Q2)) (nat_lit 328))
noncomputable abbrev zC(w:World)(os:OsState):SharedT:=⟨abU w.params,nat_lit 393,gY,Array.mk [],⟨0,0,0,0⟩,nat_lit 711,os⟩
noncomputable def VH:HD.iT (HD.F4):=λw=>(λos=>segRunT treeTable pw (w.withFollow "special-get-raises" false) (nat_lit 11) (some (.ref 6)) (nat_lit 1) (nat_lit 386) (zo (w.withFollow "special-get-raises" false) os) (piecesOf Nc dH cu ⟨69,0,69,8⟩ dF),λos=>some (Flow.next,zC (w.withFollow "special-get-raises" false) os,cu,⟨115,0,121,31⟩))
theorem NN:(λw:World=>HD.seg pw (nat_lit 11) (some (.ref 6)) (nat_lit 386) zo zC Nc dH cu ⟨69,0,69,8⟩ ⟨115,0,121,31⟩ dF (w.withFollow "special-get-raises" false))=VH:=by kernel_rfl
name_quick IG for VH by NN
theorem abk(w:World):(Fast.IG w).1=(Fast.IG w).2:=by kernel_rfl
noncomputable def Ww:HD.iT (HD.F4):=λw=>(λos=>segRunT treeTable pw (w.withFollow "special-get-raises" true) (nat_lit 11) (some (.ref 6)) (nat_lit 1) (nat_lit 386) (zo (w.withFollow "special-get-raises" true) os) (piecesOf Nc dH cu ⟨69,0,69,8⟩ dF),λos=>some (Flow.next,zC (w.withFollow "special-get-raises" true) os,cu,⟨115,0,121,31⟩))
theorem OI:(λw:World=>HD.seg pw (nat_lit 11) (some (.ref 6)) (nat_lit 386) zo zC Nc dH cu ⟨69,0,69,8⟩ ⟨115,0,121,31⟩ dF (w.withFollow "special-get-raises" true))=Ww:=by kernel_rfl
name_quick Ij for Ww by OI
theorem ada(w:World):(Fast.Ij w).1=(Fast.Ij w).2:=by kernel_rfl
theorem aeq:HD.Ok (HD.seg pw (nat_lit 11) (some (.ref 6)) (nat_lit 386) zo zC Nc dH cu ⟨69,0,69,8⟩ ⟨115,0,121,31⟩ dF):=HD.FF "special-get-raises" Fast.IG_eq Fast.Ij_eq abk ada
def abw:=HD.dc [HD.e P Zx0 165 (.str AI 752),HD.e P AF 166 .none,HD.e P Zx3 167 .none,HD.e P Zx4 168 (.builtin "__main__.__loader__#opaque"),HD.e P Zx5 169 .none,HD.e P EL 170 (.ref 6),HD.e P Ff 171 (.ref 4),HD.e P E1 173 (.str aU 172),HD.e P E3 174 .none,HD.e P kg 193 (.ref 21),HD.e P nA 220 (.ref 38),HD.e P mJ 243 (.ref 58),HD.e P nE 266 (.ref 77),HD.e P m7 289 (.ref 96),HD.e P nB 312 (.ref 115),HD.e P mU 335 (.ref 134),HD.e P mO 358 (.ref 153),HD.e P nF 381 (.ref 172),HD.e P ni 404 (.ref 191),HD.e P om 427 (.ref 210),HD.e P mr 450 (.ref 229),HD.e P nK 473 (.ref 248),HD.e P nY 496 (.ref 267),HD.e P mK 519 (.ref 286),HD.e P pZ 542 (.ref 305),HD.e P Ju 546 (.int (.ofNat 600) 545),HD.e P Jh 548 (.int (.ofNat 40) 547),HD.e P HL 550 (.int (.ofNat 99) 549),HD.e P IA 615 (.ref 308),HD.e P Pf 631 (.ref 328),HD.e P my 638 (.ref 335),HD.e P oq 644 (.ref 340),HD.e P mX 651 (.ref 347),HD.e P mM 657 (.ref 352),HD.e P nW 663 (.ref 357),HD.e P mV 670 (.ref 364),HD.e P mq 678 (.ref 371),HD.e P ou 689 (.ref 378),HD.e P nq 699 (.ref 385),HD.e P n_ 710 (.ref 392),HD.e P qu 719 (.ref 399),HD.e P qx 727 (.ref 404),HD.e P qL 739 (.ref 411),HD.e P qF 751 (.ref 418),HD.e P U1 782 (.ref 419),HD.e P pT 793 (.ref 437),HD.e P qz 801 (.ref 444),HD.e P qC 810 (.ref 451),HD.e P qG 821 (.ref 458)] 49
def O3:=HD.fa (Q2) [(HD.i 122),(HD.i 0),(.ref 398),(HD.i 125),(HD.i 0),(.ref 403),(HD.i 130),(HD.i 0),(.ref 410),(HD.i 135),(HD.i 0),(.ref 417),(HD.i 144),(HD.i 0),(.ref 436),(HD.i 151),(HD.i 0),(.ref 443),(HD.i 154),(HD.i 0),(.ref 450),(HD.i 166),(HD.i 0),(.ref 457)]
def tu:=HD.tp [(.str gB 714),(.str J8 715),(.str Wa 716)]
def Ih:=HD.fs qu qu (ht 34)
def sJ:=HD.cd qu qu aU 711 712 713 122 3 0 0 3 393 true 181 394 .none (.ref 395) (.ref 396) (.ref 397) 717 122 718
def uw:=HD.fu qu qu (ht 34) Ed 679 398
def LD:=HD.fs qx qx (ht 36)
def uX:=HD.cd qx qx aU 722 723 724 125 3 0 0 3 400 true 181 401 .none .none .none (.ref 402) 725 125 726
def rJ:=HD.fu qx qx (ht 36) N7 720 403
def uv:=HD.tp [(.str gB 731),(.str Xg 732),(.str WJ 733),(.str WA 734)]
def xg:=HD.tp [(.str Xg 735),(.str WJ 736)]
def LA:=HD.fs qL qL (ht 37)
def tj:=HD.cd qL qL aU 728 729 730 130 3 0 0 3 405 true 181 406 .none (.ref 407) (.ref 408) (.ref 409) 737 130 738
def wX:=HD.fu qL qL (ht 37) N7 720 410
def wq:=HD.tp [(.str gB 743),(.str WQ 744),(.str Vh 745),(.str WA 746)]
def tE:=HD.tp [(.str WQ 747),(.str Vh 748)]
def IJ:=HD.fs qF qF (ht 38)
def uC:=HD.cd qF qF aU 740 741 742 135 3 0 0 3 412 true 181 413 .none (.ref 414) (.ref 415) (.ref 416) 749 135 750
def tK:=HD.fu qF qF (ht 38) N7 720 417
def vi:=HD.dc [HD.e P Wj 754 (.ref 421),HD.e P RF 758 (.ref 424),HD.e P Ru 765 (.ref 426),HD.e P NJ 769 (.ref 428),HD.e P Pd 773 (.ref 430)] 5
def uP:=HD.tp [(.int (.ofNat 1) 755),(.str Il 756),(.str Il 757)]
def uk:=HD.tp [(.ref 420)]
def wu:=HD.tp [(.int (.ofNat 4) 759),(.str Pg 760),(.str Pg 761)]
def sj:=HD.tp [(.int (.ofNat 4) 762),(.str Zi 763),(.str Zi 764)]
def ux:=HD.tp [(.ref 422),(.ref 423)]
def sF:=HD.tp [(.int (.ofNat 3) 766),(.str Rl 767),(.str Rl 768)]
def vq:=HD.tp [(.ref 425)]
def tm:=HD.tp [(.int (.ofNat 1) 770),(.str O0 771),(.str NJ 772)]
def rV:=HD.tp [(.ref 427)]
def wD:=HD.tp [(.int (.ofNat 1) 774),(.str O0 775),(.str Pd 776)]
def rY:=HD.tp [(.ref 429)]
def rG:=HD.tp [(.str gB 786),(.str Dm 787),(.str adm 788),(.str abN 789),(.str Lp 790)]
def Kg:=HD.fs pT pT (ht 41)
def rC:=HD.cd pT pT aU 783 784 785 144 2 0 0 3 431 true 181 432 .none (.ref 433) (.ref 434) (.ref 435) 791 144 792
def tT:=HD.fu pT pT (ht 41) AI 752 436
def tq:=HD.tp [(.str gB 797),(.str Lh 798)]
def Jy:=HD.fs qz qz (ht 42)
def vK:=HD.cd qz qz aU 794 795 796 151 1 0 0 3 438 true 181 439 .none (.ref 440) (.ref 441) (.ref 442) 799 151 800
def uO:=HD.fu qz qz (ht 42) AI 752 443
def wA:=HD.tp [(.str gB 805),(.str Lp 806),(.str Dm 807)]
def HZ:=HD.fs qC qC (ht 43)
def vo:=HD.cd qC qC aU 802 803 804 154 3 0 0 3 445 true 181 446 .none (.ref 447) (.ref 448) (.ref 449) 808 154 809
def rE:=HD.fu qC qC (ht 43) AI 752 450
def vZ:=HD.tp [(.str gB 814),(.str J8 815),(.str Dm 816),(.str Qe 817),(.str Lp 818)]
def JB:=HD.fs qG qG (ht 44)
def w_:=HD.cd qG qG aU 811 812 813 166 3 0 0 3 452 true 181 453 .none (.ref 454) (.ref 455) (.ref 456) 819 166 820
def sY:=HD.fu qG qG (ht 44) AI 752 457
noncomputable def Nd:List Stmt:=[ht 34,ht 35,ht 36,ht 37,ht 38,ht 39,ht 40,ht 41,ht 42,ht 43,ht 44]
noncomputable def acX(P:Params):BT:=(HD.iy [af,aG,tu,af,Ih,sJ,uw,af,aG,LD,uX,rJ,af,aG,uv,xg,LA,tj,wX,af,aG,wq,tE,IJ,uC,tK,vi P,uP,uk,wu,sj,ux,sF,vq,tm,rV,wD,rY,af,aG,rG,af,Kg,rC,tT,af,aG,tq,af,Jy,vK,uO,af,aG,wA,af,HZ,vo,rE,af,aG,vZ,af,JB,w_,sY] (((abU P).ins (nat_lit 3) (abw P)).ins (nat_lit 12) (O3)) (nat_lit 393))
noncomputable abbrev DD(w:World)(os:OsState):SharedT:=⟨acX w.params,nat_lit 459,gY,Array.mk [],⟨0,0,0,0⟩,nat_lit 822,os⟩
noncomputable def U9:HD.iT (HD.F4):=λw=>(λos=>segRunT treeTable pw (w.withFollow "special-get-raises" false) (nat_lit 11) (some (.ref 6)) (nat_lit 1) (nat_lit 391) (zC (w.withFollow "special-get-raises" false) os) (piecesOf Nd dH cu ⟨115,0,121,31⟩ dF),λos=>some (Flow.next,DD (w.withFollow "special-get-raises" false) os,cu,⟨166,0,171,62⟩))
theorem Rr:(λw:World=>HD.seg pw (nat_lit 11) (some (.ref 6)) (nat_lit 391) zC DD Nd dH cu ⟨115,0,121,31⟩ ⟨166,0,171,62⟩ dF (w.withFollow "special-get-raises" false))=U9:=by kernel_rfl
name_quick JO for U9 by Rr
theorem abY(w:World):(Fast.JO w).1=(Fast.JO w).2:=by kernel_rfl
noncomputable def Xa:HD.iT (HD.F4):=λw=>(λos=>segRunT treeTable pw (w.withFollow "special-get-raises" true) (nat_lit 11) (some (.ref 6)) (nat_lit 1) (nat_lit 391) (zC (w.withFollow "special-get-raises" true) os) (piecesOf Nd dH cu ⟨115,0,121,31⟩ dF),λos=>some (Flow.next,DD (w.withFollow "special-get-raises" true) os,cu,⟨166,0,171,62⟩))
theorem NQ:(λw:World=>HD.seg pw (nat_lit 11) (some (.ref 6)) (nat_lit 391) zC DD Nd dH cu ⟨115,0,121,31⟩ ⟨166,0,171,62⟩ dF (w.withFollow "special-get-raises" true))=Xa:=by kernel_rfl
name_quick Ka for Xa by NQ
theorem abr(w:World):(Fast.Ka w).1=(Fast.Ka w).2:=by kernel_rfl
theorem ad5:HD.Ok (HD.seg pw (nat_lit 11) (some (.ref 6)) (nat_lit 391) zC DD Nd dH cu ⟨115,0,121,31⟩ ⟨166,0,171,62⟩ dF):=HD.FF "special-get-raises" Fast.JO_eq Fast.Ka_eq abY abr
def WT:=HD.dc [HD.e P Zx0 165 (.str cT 848),HD.e P AF 166 .none,HD.e P Zx3 167 .none,HD.e P Zx4 168 (.builtin "__main__.__loader__#opaque"),HD.e P Zx5 169 .none,HD.e P EL 170 (.ref 6),HD.e P Ff 171 (.ref 4),HD.e P E1 173 (.str aU 172),HD.e P E3 174 .none,HD.e P kg 193 (.ref 21),HD.e P nA 220 (.ref 38),HD.e P mJ 243 (.ref 58),HD.e P nE 266 (.ref 77),HD.e P m7 289 (.ref 96),HD.e P nB 312 (.ref 115),HD.e P mU 335 (.ref 134),HD.e P mO 358 (.ref 153),HD.e P nF 381 (.ref 172),HD.e P ni 404 (.ref 191),HD.e P om 427 (.ref 210),HD.e P mr 450 (.ref 229),HD.e P nK 473 (.ref 248),HD.e P nY 496 (.ref 267),HD.e P mK 519 (.ref 286),HD.e P pZ 542 (.ref 305),HD.e P Ju 546 (.int (.ofNat 600) 545),HD.e P Jh 548 (.int (.ofNat 40) 547),HD.e P HL 550 (.int (.ofNat 99) 549),HD.e P IA 615 (.ref 308),HD.e P Pf 631 (.ref 328),HD.e P my 638 (.ref 335),HD.e P oq 644 (.ref 340),HD.e P mX 651 (.ref 347),HD.e P mM 657 (.ref 352),HD.e P nW 663 (.ref 357),HD.e P mV 670 (.ref 364),HD.e P mq 678 (.ref 371),HD.e P ou 689 (.ref 378),HD.e P nq 699 (.ref 385),HD.e P n_ 710 (.ref 392),HD.e P qu 719 (.ref 399),HD.e P qx 727 (.ref 404),HD.e P qL 739 (.ref 411),HD.e P qF 751 (.ref 418),HD.e P U1 782 (.ref 419),HD.e P pT 793 (.ref 437),HD.e P qz 801 (.ref 444),HD.e P qC 810 (.ref 451),HD.e P qG 821 (.ref 458),HD.e P yB 833 (.ref 465),HD.e P yt 847 (.ref 472),HD.e P xH 860 (.ref 479),HD.e P yu 867 (.ref 486),HD.e P yh 873 (.ref 491),HD.e P yQ 884 (.ref 498),HD.e P yM 898 (.ref 505),HD.e P yT 910 (.ref 512),HD.e P ye 923 (.ref 519),HD.e P xx 935 (.ref 526),HD.e P yw 946 (.ref 533)] 60
def Of:=HD.fa (O3) [(HD.i 172),(HD.i 0),(.ref 464),(HD.i 182),(HD.i 0),(.ref 471),(HD.i 194),(HD.i 0),(.ref 478),(HD.i 202),(HD.i 0),(.ref 485),(HD.i 208),(HD.i 0),(.ref 490),(HD.i 217),(HD.i 0),(.ref 497),(HD.i 228),(HD.i 0),(.ref 504),(HD.i 238),(HD.i 0),(.ref 511),(HD.i 241),(HD.i 0),(.ref 518),(HD.i 245),(HD.i 0),(.ref 525),(HD.i 248),(HD.i 0),(.ref 532)]
def rM:=HD.tp [(.str gB 825),(.str Dm 826),(.str Lp 827),(.str Lh 828),(.str Vs 829),(.str W8 830)]
def Jr:=HD.fs yB yB (ht 45)
def tS:=HD.cd yB yB aU 822 823 824 172 2 0 0 3 459 true 181 460 .none (.ref 461) (.ref 462) (.ref 463) 831 172 832
def wK:=HD.fu yB yB (ht 45) AI 752 464
def vV:=HD.tp [(.str gB 839),(.str acR 840),(.str Dm 841),(.str Qe 842),(.str adR 843),(.str W8 844)]
def J_:=HD.fs yt yt (ht 47)
def tZ:=HD.cd yt yt aU 836 837 838 182 3 0 0 3 466 true 181 467 .none (.ref 468) (.ref 469) (.ref 470) 845 182 846
def se:=HD.fu yt yt (ht 47) acj 834 471
def vW:=HD.tp [(.str fX 853),(.str fY 854),(.str JE 855),(.str adE 856),(.str abI 857)]
def Im:=HD.fs xH xH (ht 49)
def wg:=HD.cd xH xH aU 850 851 852 194 3 0 0 3 473 true 181 474 .none (.ref 475) (.ref 476) (.ref 477) 858 194 859
def tX:=HD.fu xH xH (ht 49) cT 848 478
def rm:=HD.tp [(.str Ke 864)]
def K8:=HD.fs yu yu (ht 50)
def tI:=HD.cd yu yu aU 861 862 863 202 1 0 0 3 480 true 181 481 .none (.ref 482) (.ref 483) (.ref 484) 865 202 866
def rQ:=HD.fu yu yu (ht 50) cT 848 485
def Ii:=HD.fs yh yh (ht 51)
def sC:=HD.cd yh yh aU 868 869 870 208 2 0 0 3 487 true 181 488 .none .none .none (.ref 489) 871 208 872
def tW:=HD.fu yh yh (ht 51) cT 848 490
def wJ:=HD.tp [(.str fX 877),(.str fY 878),(.str lh 879),(.str jJ 880),(.str AN 881)]
def IC:=HD.fs yQ yQ (ht 52)
def wU:=HD.cd yQ yQ aU 874 875 876 217 4 0 0 3 492 true 181 493 .none (.ref 494) (.ref 495) (.ref 496) 882 217 883
def tO:=HD.fu yQ yQ (ht 52) cT 848 497
def uE:=HD.tp [(.str fX 888),(.str fY 889),(.str ll 890),(.str lh 891),(.str jJ 892),(.str AN 893),(.str Rq 894),(.str Ak 895)]
def JM:=HD.fs yM yM (ht 53)
def sr:=HD.cd yM yM aU 885 886 887 228 5 0 0 3 499 true 181 500 .none (.ref 501) (.ref 502) (.ref 503) 896 228 897
def um:=HD.fu yM yM (ht 53) cT 848 504
def uy:=HD.tp [(.str fX 902),(.str fY 903),(.str ll 904),(.str lh 905),(.str jJ 906),(.str Ak 907)]
def Lz:=HD.fs yT yT (ht 54)
def uM:=HD.cd yT yT aU 899 900 901 238 5 0 0 3 506 true 181 507 .none (.ref 508) (.ref 509) (.ref 510) 908 238 909
def t_:=HD.fu yT yT (ht 54) cT 848 511
def vz:=HD.tp [(.str fX 914),(.str fY 915),(.str ll 916),(.str lh 917),(.str jJ 918),(.str Ak 919),(.str Rq 920)]
def Kl:=HD.fs ye ye (ht 55)
def rP:=HD.cd ye ye aU 911 912 913 241 5 0 0 3 513 true 181 514 .none (.ref 515) (.ref 516) (.ref 517) 921 241 922
def vg:=HD.fu ye ye (ht 55) cT 848 518
def rL:=HD.tp [(.str fX 927),(.str fY 928),(.str ll 929),(.str lh 930),(.str jJ 931),(.str Ak 932)]
def Lb:=HD.fs xx xx (ht 56)
def rT:=HD.cd xx xx aU 924 925 926 245 5 0 0 3 520 true 181 521 .none (.ref 522) (.ref 523) (.ref 524) 933 245 934
def vf:=HD.fu xx xx (ht 56) cT 848 525
def vI:=HD.tp [(.str fX 939),(.str fY 940),(.str ll 941),(.str lh 942),(.str jJ 943)]
def KZ:=HD.fs yw yw (ht 57)
def wO:=HD.cd yw yw aU 936 937 938 248 5 0 0 3 527 true 181 528 .none (.ref 529) (.ref 530) (.ref 531) 944 248 945
def sL:=HD.fu yw yw (ht 57) cT 848 532
noncomputable def SE:List Stmt:=[ht 45,ht 46,ht 47,ht 48,ht 49,ht 50,ht 51,ht 52,ht 53,ht 54,ht 55,ht 56,ht 57]
noncomputable def aa9(P:Params):BT:=(HD.iy [af,aG,rM,af,Jr,tS,wK,af,aG,vV,af,J_,tZ,se,af,aG,vW,af,Im,wg,tX,af,aG,rm,af,K8,tI,rQ,af,aG,Ii,sC,tW,af,aG,wJ,af,IC,wU,tO,af,aG,uE,af,JM,sr,um,af,aG,uy,af,Lz,uM,t_,af,aG,vz,af,Kl,rP,vg,af,aG,rL,af,Lb,rT,vf,af,aG,vI,af,KZ,wO,sL] (((acX P).ins (nat_lit 3) (WT P)).ins (nat_lit 12) (Of)) (nat_lit 459))
noncomputable abbrev L7(w:World)(os:OsState):SharedT:=⟨aa9 w.params,nat_lit 534,gY,Array.mk [],⟨0,0,0,0⟩,nat_lit 947,os⟩
noncomputable def acs:HD.iT (HD.F4):=λw=>(λos=>segRunT treeTable pw w (nat_lit 11) (some (.ref 6)) (nat_lit 1) (nat_lit 380) (DD w os) (piecesOf SE dH cu ⟨166,0,171,62⟩ dF),λos=>some (Flow.next,L7 w os,cu,⟨248,0,251,96⟩))
theorem Tg:HD.seg pw (nat_lit 11) (some (.ref 6)) (nat_lit 380) DD L7 SE dH cu ⟨166,0,171,62⟩ ⟨248,0,251,96⟩ dF=acs:=by kernel_rfl
name_quick O1 for acs by Tg
theorem aeB(w:World):(Fast.O1 w).1=(Fast.O1 w).2:=by kernel_rfl
theorem aew:HD.Ok (HD.seg pw (nat_lit 11) (some (.ref 6)) (nat_lit 380) DD L7 SE dH cu ⟨166,0,171,62⟩ ⟨248,0,251,96⟩ dF):=HD.iU Fast.O1_eq aeB
def W6:=HD.dm (WT P) [HD.e P xF 962 (.ref 540),HD.e P zg 977 (.ref 547),HD.e P yi 989 (.ref 554),HD.e P yb 996 (.ref 561),HD.e P xK 1008 (.ref 568),HD.e P xw 1016 (.ref 575),HD.e P zc 1028 (.ref 582),HD.e P yp 1040 (.ref 589),HD.e P xB 1050 (.ref 596),HD.e P yG 1065 (.ref 603),HD.e P yS 1074 (.ref 610)] 71
def PR:=HD.fa (Of) [(HD.i 252),(HD.i 0),(.ref 539),(HD.i 264),(HD.i 0),(.ref 546),(HD.i 285),(HD.i 0),(.ref 553),(HD.i 292),(HD.i 0),(.ref 560),(HD.i 296),(HD.i 0),(.ref 567),(HD.i 308),(HD.i 0),(.ref 574),(HD.i 311),(HD.i 0),(.ref 581),(HD.i 319),(HD.i 0),(.ref 588),(HD.i 325),(HD.i 0),(.ref 595),(HD.i 335),(HD.i 0),(.ref 602),(HD.i 346),(HD.i 0),(.ref 609)]
def vc:=HD.tp [(.str fX 950),(.str fY 951),(.str ll 952),(.str lh 953),(.str jJ 954),(.str AN 955),(.str Ke 956),(.str Ak 957),(.str Rq 958),(.str VC 959)]
def JF:=HD.fs xF xF (ht 58)
def sX:=HD.cd xF xF aU 947 948 949 252 6 0 0 3 534 true 181 535 .none (.ref 536) (.ref 537) (.ref 538) 960 252 961
def rN:=HD.fu xF xF (ht 58) cT 848 539
def w6:=HD.tp [(.str fX 966),(.str fY 967),(.str ll 968),(.str lh 969),(.str jJ 970),(.str AN 971),(.str W_ 972),(.str WC 973),(.str abg 974)]
def HM:=HD.fs zg zg (ht 59)
def rZ:=HD.cd zg zg aU 963 964 965 264 6 0 0 3 541 true 181 542 .none (.ref 543) (.ref 544) (.ref 545) 975 264 976
def sd:=HD.fu zg zg (ht 59) cT 848 546
def sf:=HD.tp [(.str fX 981),(.str fY 982),(.str ll 983),(.str lh 984),(.str jJ 985),(.str AN 986)]
def JT:=HD.fs yi yi (ht 60)
def uT:=HD.cd yi yi aU 978 979 980 285 5 0 0 3 548 true 181 549 .none (.ref 550) (.ref 551) (.ref 552) 987 285 988
def vS:=HD.fu yi yi (ht 60) cT 848 553
def sT:=HD.tp [(.str nP 993)]
def K9:=HD.fs yb yb (ht 61)
def uc:=HD.cd yb yb aU 990 991 992 292 1 0 0 3 555 true 181 556 .none (.ref 557) (.ref 558) (.ref 559) 994 292 995
def rW:=HD.fu yb yb (ht 61) cT 848 560
def sD:=HD.tp [(.str nP 1000),(.str abP 1001),(.str ll 1002),(.str abL 1003),(.str acQ 1004),(.str V5 1005)]
def KI:=HD.fs xK xK (ht 62)
def tU:=HD.cd xK xK aU 997 998 999 296 1 0 0 3 562 true 181 563 .none (.ref 564) (.ref 565) (.ref 566) 1006 296 1007
def r_:=HD.fu xK xK (ht 62) cT 848 567
def wF:=HD.tp [(.str nP 1012),(.str V5 1013)]
def Ie:=HD.fs xw xw (ht 63)
def sP:=HD.cd xw xw aU 1009 1010 1011 308 1 0 0 3 569 true 181 570 .none (.ref 571) (.ref 572) (.ref 573) 1014 308 1015
def ua:=HD.fu xw xw (ht 63) cT 848 574
def uI:=HD.tp [(.str fX 1020),(.str fY 1021),(.str ll 1022),(.str lh 1023),(.str jJ 1024),(.str acn 1025)]
def Jj:=HD.fs zc zc (ht 64)
def rj:=HD.cd zc zc aU 1017 1018 1019 311 5 0 0 3 576 true 181 577 .none (.ref 578) (.ref 579) (.ref 580) 1026 311 1027
def so:=HD.fu zc zc (ht 64) cT 848 581
def vJ:=HD.tp [(.str fX 1032),(.str fY 1033),(.str jJ 1034),(.str AM 1035),(.str Ia 1036),(.str Ak 1037)]
def KS:=HD.fs yp yp (ht 65)
def rX:=HD.cd yp yp aU 1029 1030 1031 319 3 0 0 3 583 true 181 584 .none (.ref 585) (.ref 586) (.ref 587) 1038 319 1039
def vL:=HD.fu yp yp (ht 65) cT 848 588
def u9:=HD.tp [(.str nP 1044),(.str AM 1045),(.str Ke 1046),(.str acN 1047)]
def Ic:=HD.fs xB xB (ht 66)
def u_:=HD.cd xB xB aU 1041 1042 1043 325 2 0 0 3 590 true 181 591 .none (.ref 592) (.ref 593) (.ref 594) 1048 325 1049
def ub:=HD.fu xB xB (ht 66) cT 848 595
def wc:=HD.tp [(.str nP 1054),(.str AM 1055),(.str EX 1056),(.str acI 1057),(.str abq 1058),(.str abZ 1059),(.str aaK 1060),(.str ac0 1061),(.str adN 1062)]
def HS:=HD.fs yG yG (ht 67)
def rS:=HD.cd yG yG aU 1051 1052 1053 335 2 0 0 3 597 true 181 598 .none (.ref 599) (.ref 600) (.ref 601) 1063 335 1064
def tG:=HD.fu yG yG (ht 67) cT 848 602
def wC:=HD.tp [(.str WZ 1069),(.str EX 1070),(.str aaU 1071)]
def Je:=HD.fs yS yS (ht 68)
def wW:=HD.cd yS yS aU 1066 1067 1068 346 1 0 0 3 604 true 181 605 .none (.ref 606) (.ref 607) (.ref 608) 1072 346 1073
def tw:=HD.fu yS yS (ht 68) cT 848 609
noncomputable def T_:List Stmt:=[ht 58,ht 59,ht 60,ht 61,ht 62,ht 63,ht 64,ht 65,ht 66,ht 67,ht 68]
noncomputable def abb(P:Params):BT:=(HD.iy [af,aG,vc,af,JF,sX,rN,af,aG,w6,af,HM,rZ,sd,af,aG,sf,af,JT,uT,vS,af,aG,sT,af,K9,uc,rW,af,aG,sD,af,KI,tU,r_,af,aG,wF,af,Ie,sP,ua,af,aG,uI,af,Jj,rj,so,af,aG,vJ,af,KS,rX,vL,af,aG,u9,af,Ic,u_,ub,af,aG,wc,af,HS,rS,tG,af,aG,wC,af,Je,wW,tw] (((aa9 P).ins (nat_lit 3) (W6 P)).ins (nat_lit 12) (PR)) (nat_lit 534))
noncomputable abbrev Mc(w:World)(os:OsState):SharedT:=⟨abb w.params,nat_lit 611,gY,Array.mk [],⟨0,0,0,0⟩,nat_lit 1075,os⟩
noncomputable def acx:HD.iT (HD.F4):=λw=>(λos=>segRunT treeTable pw w (nat_lit 11) (some (.ref 6)) (nat_lit 1) (nat_lit 371) (L7 w os) (piecesOf T_ dH cu ⟨248,0,251,96⟩ dF),λos=>some (Flow.next,Mc w os,cu,⟨346,0,351,68⟩))
theorem Ud:HD.seg pw (nat_lit 11) (some (.ref 6)) (nat_lit 371) L7 Mc T_ dH cu ⟨248,0,251,96⟩ ⟨346,0,351,68⟩ dF=acx:=by kernel_rfl
name_quick Qp for acx by Ud
theorem ad9(w:World):(Fast.Qp w).1=(Fast.Qp w).2:=by kernel_rfl
theorem afc:HD.Ok (HD.seg pw (nat_lit 11) (some (.ref 6)) (nat_lit 371) L7 Mc T_ dH cu ⟨248,0,251,96⟩ ⟨346,0,351,68⟩ dF):=HD.iU Fast.Qp_eq ad9
def Ld:=HD.dm (W6 P) [HD.e P xI 1086 (.ref 617),HD.e P yV 1096 (.ref 624),HD.e P xC 1107 (.ref 631),HD.e P yA 1119 (.ref 638),HD.e P x6 1125 (.ref 643),HD.e P yY 1136 (.ref 650),HD.e P yk 1144 (.ref 657),HD.e P xq 1162 (.ref 664)] 79
def Qx:=HD.fa (PR) [(HD.i 352),(HD.i 0),(.ref 616),(HD.i 359),(HD.i 0),(.ref 623),(HD.i 370),(HD.i 0),(.ref 630),(HD.i 379),(HD.i 0),(.ref 637),(HD.i 388),(HD.i 0),(.ref 642),(HD.i 401),(HD.i 0),(.ref 649),(HD.i 409),(HD.i 0),(.ref 656),(HD.i 413),(HD.i 0),(.ref 663)]
def xa:=HD.tp [(.str JE 1078),(.str AM 1079),(.str acD 1080),(.str Ia 1081),(.str acw 1082),(.str Ke 1083)]
def KC:=HD.fs xI xI (ht 69)
def sS:=HD.cd xI xI aU 1075 1076 1077 352 2 0 0 3 611 true 181 612 .none (.ref 613) (.ref 614) (.ref 615) 1084 352 1085
def vU:=HD.fu xI xI (ht 69) cT 848 616
def vM:=HD.tp [(.str fX 1090),(.str fY 1091),(.str nP 1092),(.str AN 1093)]
def J5:=HD.fs yV yV (ht 70)
def sQ:=HD.cd yV yV aU 1087 1088 1089 359 3 0 0 3 618 true 181 619 .none (.ref 620) (.ref 621) (.ref 622) 1094 359 1095
def vY:=HD.fu yV yV (ht 70) cT 848 623
def uF:=HD.tp [(.str fX 1100),(.str fY 1101),(.str nP 1102),(.str JE 1103),(.str Ia 1104)]
def I_:=HD.fs xC xC (ht 71)
def tL:=HD.cd xC xC aU 1097 1098 1099 370 3 0 0 3 625 true 181 626 .none (.ref 627) (.ref 628) (.ref 629) 1105 370 1106
def vd:=HD.fu xC xC (ht 71) cT 848 630
def uA:=HD.tp [(.str fX 1111),(.str fY 1112),(.str W_ 1113),(.str Ia 1114),(.str WC 1115),(.str acK 1116)]
def HQ:=HD.fs yA yA (ht 72)
def vR:=HD.cd yA yA aU 1108 1109 1110 379 2 0 0 3 632 true 181 633 .none (.ref 634) (.ref 635) (.ref 636) 1117 379 1118
def tM:=HD.fu yA yA (ht 72) cT 848 637
def JL:=HD.fs x6 x6 (ht 73)
def si:=HD.cd x6 x6 aU 1120 1121 1122 388 3 0 0 3 639 true 181 640 .none .none .none (.ref 641) 1123 388 1124
def uK:=HD.fu x6 x6 (ht 73) cT 848 642
def vx:=HD.tp [(.str nP 1129),(.str U0 1130),(.str AM 1131),(.str EX 1132),(.str WZ 1133)]
def Ja:=HD.fs yY yY (ht 74)
def vX:=HD.cd yY yY aU 1126 1127 1128 401 3 0 0 3 644 true 181 645 .none (.ref 646) (.ref 647) (.ref 648) 1134 401 1135
def xj:=HD.fu yY yY (ht 74) cT 848 649
def ur:=HD.tp [(.str EX 1140),(.str WD 1141)]
def KW:=HD.fs yk yk (ht 75)
def vQ:=HD.cd yk yk aU 1137 1138 1139 409 2 0 0 3 651 true 181 652 .none (.ref 653) (.ref 654) (.ref 655) 1142 409 1143
def uU:=HD.fu yk yk (ht 75) cT 848 656
def wI:=HD.tp [(.str fX 1148),(.str fY 1149),(.str jJ 1150),(.str AM 1151),(.str nP 1152),(.str U0 1153),(.str JE 1154),(.str WD 1155),(.str adl 1156),(.str EX 1157),(.str VC 1158),(.str ab1 1159)]
def H_:=HD.fs xq xq (ht 76)
def rO:=HD.cd xq xq aU 1145 1146 1147 413 1 0 0 3 658 true 181 659 .none (.ref 660) (.ref 661) (.ref 662) 1160 413 1161
def xi:=HD.fu xq xq (ht 76) cT 848 663
noncomputable def Uu:List Stmt:=[ht 69,ht 70,ht 71,ht 72,ht 73,ht 74,ht 75,ht 76]
noncomputable def ae2(P:Params):BT:=(HD.iy [af,aG,xa,af,KC,sS,vU,af,aG,vM,af,J5,sQ,vY,af,aG,uF,af,I_,tL,vd,af,aG,uA,af,HQ,vR,tM,af,aG,JL,si,uK,af,aG,vx,af,Ja,vX,xj,af,aG,ur,af,KW,vQ,uU,af,aG,wI,af,H_,rO,xi] (((abb P).ins (nat_lit 3) (Ld P)).ins (nat_lit 12) (Qx)) (nat_lit 611))
noncomputable abbrev MM(w:World)(os:OsState):SharedT:=⟨ae2 w.params,nat_lit 665,gY,Array.mk [],⟨0,0,0,0⟩,nat_lit 1163,os⟩
noncomputable def aa8:HD.iT (HD.F4):=λw=>(λos=>segRunT treeTable pw w (nat_lit 11) (some (.ref 6)) (nat_lit 1) (nat_lit 263) (Mc w os) (piecesOf Uu dH cu ⟨346,0,351,68⟩ dF),λos=>some (Flow.next,MM w os,cu,⟨413,0,442,80⟩))
theorem Us:HD.seg pw (nat_lit 11) (some (.ref 6)) (nat_lit 263) Mc MM Uu dH cu ⟨346,0,351,68⟩ ⟨413,0,442,80⟩ dF=aa8:=by kernel_rfl
name_quick N1 for aa8 by Us
theorem afb(w:World):(Fast.N1 w).1=(Fast.N1 w).2:=by kernel_rfl
theorem aeX:HD.Ok (HD.seg pw (nat_lit 11) (some (.ref 6)) (nat_lit 263) Mc MM Uu dH cu ⟨346,0,351,68⟩ ⟨413,0,442,80⟩ dF):=HD.iU Fast.N1_eq afb
noncomputable def ab2(r:List (Obj)):List (Obj):=PySem.W.boot_o_0 P::PySem.W.boot_o_1 P::PySem.W.boot_o_2 P::Ld P::PySem.W.boot_o_4 P::PySem.W.boot_o_5 P::PySem.W.boot_o_6 P::PySem.W.boot_o_7 P::PySem.W.boot_o_8 P::PySem.W.boot_o_9 P::PySem.W.boot_o_10 P::af::r
noncomputable def acO(r:List (Obj)):List (Obj):=Qx::Q5::Px::af::aG::IM::af::VX::J4::Jw::J7::cR::r
noncomputable def aa5(r:List (Obj)):List (Obj):=Xb P::af::Wx::WY::Vj::af::aG::K3::af::WM::K1::IT::r
noncomputable def abn(r:List (Obj)):List (Obj):=af::HY P::BD::Iu::Vo::V9::bw::cR::VZ P::af::V2::Vd::r
noncomputable def ade(r:List (Obj)):List (Obj):=Vb::af::aG::La::af::WH::KJ::KL::af::JX P::Kt::UZ::r
noncomputable def aaL(r:List (Obj)):List (Obj):=VY::bw::cR::VA P::af::WN::WI::Wl::af::aG::Jc::af::r
noncomputable def adk(r:List (Obj)):List (Obj):=Wi::HH::LJ::af::K6 P::KN::Wz::VU::bw::cR::VI P::af::r
noncomputable def abf(r:List (Obj)):List (Obj):=W9::VB::Vv::af::aG::Jx::af::Vg::Kv::Ko::af::Ib P::r
noncomputable def ab0(r:List (Obj)):List (Obj):=Kf::Wv::VN::bw::cR::P9 P::af::NY::NZ::RZ::af::aG::r
noncomputable def acE(r:List (Obj)):List (Obj):=BW::af::RE::B3::BS::af::BL P::By::RV::Sa::bw::cR::r
noncomputable def X2(r:List (Obj)):List (Obj):=OZ P::af::Qo::Py::QK::af::aG::Bi::af::Pq::BE::B7::r
noncomputable def Yn(r:List (Obj)):List (Obj):=af::BZ P::AZ::NP::RQ::bw::cR::R6 P::af::Od::RU::QL::r
noncomputable def aab(r:List (Obj)):List (Obj):=af::aG::BN::af::OH::BG::CN::af::C0 P::Cc::Rf::QV::r
noncomputable def Y8(r:List (Obj)):List (Obj):=bw::cR::Oc P::af::O7::Sb::Oa::af::aG::CZ::af::Qf::r
noncomputable def aaG(r:List (Obj)):List (Obj):=CQ::Bd::af::Co P::Bz::RD::R4::bw::cR::Pw P::af::Oj::r
noncomputable def Yi(r:List (Obj)):List (Obj):=PU::OB::af::aG::Cg::af::NU::Cs::CL::af::C1 P::BQ::r
noncomputable def XD(r:List (Obj)):List (Obj):=O8::P8::bw::cR::HV P::af::J9::Kp::Jf::af::aG::wV::r
noncomputable def ZE(r:List (Obj)):List (Obj):=af::LB::uD::vG::af::uo P::vb::LF::KY::bw::cR::Js P::r
noncomputable def Zu(r:List (Obj)):List (Obj):=af::K4::HI::Kd::af::aG::uL::af::Jn::uz::uQ::af::r
noncomputable def ZC(r:List (Obj)):List (Obj):=uZ P::uq::Lu::Ig::bw::cR::K0 P::af::LC::JK::KR::af::r
noncomputable def XM(r:List (Obj)):List (Obj):=aG::vp::af::JQ::xc::uS::af::sO P::wN::HG::JP::bw::r
noncomputable def XU(r:List (Obj)):List (Obj):=cR::Le P::af::Lq::IV::Lr::af::aG::tP::af::Km::wB::r
noncomputable def ZF(r:List (Obj)):List (Obj):=vv::af::sM P::vF::Kw::Jt::bw::cR::Kz P::af::KQ::Lw::r
noncomputable def aau(r:List (Obj)):List (Obj):=Jb::af::aG::uN::af::IW::rR::vO::af::ve P::wy::Kh::r
noncomputable def Zp(r:List (Obj)):List (Obj):=Ip::bw::cR::Jo P::af::Lj::JR::JJ::af::aG::uJ::af::r
noncomputable def X6(r:List (Obj)):List (Obj):=Jd::wG::wZ::af::ue P::uh::Lx::IQ::vh P::af::af::vT::r
noncomputable def ZU(r:List (Obj)):List (Obj):=uH::vP::af::v_::uu::af::uV::s_::sW::vN::sU::vj::r
noncomputable def ZN(r:List (Obj)):List (Obj):=tJ::sN::Ks P::af::wL P::af::aG::sZ::af::IZ::wH::sR::r
noncomputable def YU(r:List (Obj)):List (Obj):=af::aG::KO::tH::tR::af::aG::wQ::af::IS::tV::wx::r
noncomputable def X5(r:List (Obj)):List (Obj):=af::aG::Lk::ug::rF::af::aG::Kk::rK::vH::af::aG::r
noncomputable def ZQ(r:List (Obj)):List (Obj):=uW::af::Ln::wt::tF::af::aG::sk::af::KG::uB::rH::r
noncomputable def Xq(r:List (Obj)):List (Obj):=af::aG::tQ::af::IX::wa::sE::af::aG::uR::af::Lv::r
noncomputable def aav(r:List (Obj)):List (Obj):=wM::sG::af::aG::tD::af::HN::vy::u7::af::aG::tu::r
noncomputable def YE(r:List (Obj)):List (Obj):=af::Ih::sJ::uw::af::aG::LD::uX::rJ::af::aG::uv::r
noncomputable def Yg(r:List (Obj)):List (Obj):=xg::LA::tj::wX::af::aG::wq::tE::IJ::uC::tK::vi P::r
noncomputable def Xz(r:List (Obj)):List (Obj):=uP::uk::wu::sj::ux::sF::vq::tm::rV::wD::rY::af::r
noncomputable def XS(r:List (Obj)):List (Obj):=aG::rG::af::Kg::rC::tT::af::aG::tq::af::Jy::vK::r
noncomputable def Zh(r:List (Obj)):List (Obj):=uO::af::aG::wA::af::HZ::vo::rE::af::aG::vZ::af::r
noncomputable def Yw(r:List (Obj)):List (Obj):=JB::w_::sY::af::aG::rM::af::Jr::tS::wK::af::aG::r
noncomputable def YM(r:List (Obj)):List (Obj):=vV::af::J_::tZ::se::af::aG::vW::af::Im::wg::tX::r
noncomputable def Yj(r:List (Obj)):List (Obj):=af::aG::rm::af::K8::tI::rQ::af::aG::Ii::sC::tW::r
noncomputable def aaz(r:List (Obj)):List (Obj):=af::aG::wJ::af::IC::wU::tO::af::aG::uE::af::JM::r
noncomputable def YD(r:List (Obj)):List (Obj):=sr::um::af::aG::uy::af::Lz::uM::t_::af::aG::vz::r
noncomputable def XA(r:List (Obj)):List (Obj):=af::Kl::rP::vg::af::aG::rL::af::Lb::rT::vf::af::r
noncomputable def Xw(r:List (Obj)):List (Obj):=aG::vI::af::KZ::wO::sL::af::aG::vc::af::JF::sX::r
noncomputable def Yh(r:List (Obj)):List (Obj):=rN::af::aG::w6::af::HM::rZ::sd::af::aG::sf::af::r
noncomputable def YN(r:List (Obj)):List (Obj):=JT::uT::vS::af::aG::sT::af::K9::uc::rW::af::aG::r
noncomputable def YG(r:List (Obj)):List (Obj):=sD::af::KI::tU::r_::af::aG::wF::af::Ie::sP::ua::r
noncomputable def Zt(r:List (Obj)):List (Obj):=af::aG::uI::af::Jj::rj::so::af::aG::vJ::af::KS::r
noncomputable def aan(r:List (Obj)):List (Obj):=rX::vL::af::aG::u9::af::Ic::u_::ub::af::aG::wc::r
noncomputable def Xh(r:List (Obj)):List (Obj):=af::HS::rS::tG::af::aG::wC::af::Je::wW::tw::af::r
noncomputable def aaw(r:List (Obj)):List (Obj):=aG::xa::af::KC::sS::vU::af::aG::vM::af::J5::sQ::r
noncomputable def aam(r:List (Obj)):List (Obj):=vY::af::aG::uF::af::I_::tL::vd::af::aG::uA::af::r
noncomputable def Xk(r:List (Obj)):List (Obj):=HQ::vR::tM::af::aG::JL::si::uK::af::aG::vx::af::r
noncomputable def Zf(r:List (Obj)):List (Obj):=Ja::vX::xj::af::aG::ur::af::KW::vQ::uU::af::aG::r
noncomputable def ZK(r:List (Obj)):List (Obj):=wI::af::H_::rO::xi::r
noncomputable def Si(P:Params):Heap:=⟨Array.mk (ab2 P (acO (aa5 P (abn P (ade P (aaL P (adk P (abf P (ab0 P (acE P (X2 P (Yn P (aab P (Y8 P (aaG P (Yi P (XD P (ZE P (Zu (ZC P (XM P (XU P (ZF P (aau P (Zp P (X6 P (ZU (ZN P (YU (X5 (ZQ (Xq (aav (YE (Yg P (Xz (XS (Zh (Yw (YM (Yj (aaz (YD (XA (Xw (Yh (YN (YG (Zt (aan (Xh (aaw (aam (Xk (Zf (ZK [])))))))))))))))))))))))))))))))))))))))))))))))))))))))),⟨[],[],[],0,[],[],false,#[],[],0,false,false,false,(.ofNat 0),[(.ofNat 2000),(.ofNat 10),(.ofNat 10)],false,0,true,[],[],0,false⟩⟩
noncomputable def Zd:Drawn:=⟨0,0,0,0⟩
noncomputable def Zg:Nat:=nat_lit 1163
noncomputable abbrev Vi:World->OsState->Shared:=HD.mkS Si Zd Zg
noncomputable def Zqz:HD.iT (Option Shared):=λw=>(λos=>topRun treeTable pw w (nat_lit 11) (some (.ref 6)) (nat_lit 2) (MM w os).abs (Thread.mk (doneF Flow.next) cu ⟨413,0,442,80⟩ dF),λos=>some (Vi w os))
theorem YV:HD.fin pw (nat_lit 11) (some (.ref 6)) (nat_lit 2) MM Vi (Thread.mk (doneF Flow.next) cu ⟨413,0,442,80⟩ dF)=Zqz:=by kernel_rfl
name_quick WU for Zqz by YV
theorem Ziz(w:World):(Fast.WU w).1=(Fast.WU w).2:=by kernel_rfl
theorem Zhz:HD.Ok (HD.fin pw (nat_lit 11) (some (.ref 6)) (nat_lit 2) MM Vi (Thread.mk (doneF Flow.next) cu ⟨413,0,442,80⟩ dF)):=HD.iU Fast.WU_eq Ziz
theorem ae_:behindTheImports pw=(Zg1++(Zg2++(Zg3++(Zg4++(Zg5++(Zg6++(Zg7++(Zg8++(Zg9++(SR++(UP++(Uw++(UK++(Tf++(TN++(Ms++(Nc++(Nd++(SE++(T_++(Uu++([]:List Stmt)))))))))))))))))))))):=by kernel_rfl
theorem ac2:HD.Goes pw (nat_lit 11) (some (.ref 6)) Vi (nat_lit 12+(nat_lit 1+(nat_lit 255+(nat_lit 244+(nat_lit 244+(nat_lit 244+(nat_lit 244+(nat_lit 244+(nat_lit 244+(nat_lit 244+(nat_lit 244+(nat_lit 244+(nat_lit 244+(nat_lit 244+(nat_lit 244+(nat_lit 244+(nat_lit 280+(nat_lit 340+(nat_lit 386+(nat_lit 391+(nat_lit 380+(nat_lit 371+(nat_lit 263+(nat_lit 2)))))))))))))))))))))))) ZS0 (topStub pw):=HD.aco Zha (HD.acG ae_ Zhb (HD.eA Zh1 (HD.eA Zh2 (HD.eA Zh3 (HD.eA Zh4 (HD.eA Zh5 (HD.eA Zh6 (HD.eA Zh7 (HD.eA Zh8 (HD.eA Zh9 (HD.eA aft (HD.eA aeb (HD.eA adY (HD.eA adU (HD.eA aeN (HD.eA adW (HD.eA aen (HD.eA aeq (HD.eA ad5 (HD.eA aew (HD.eA afc (HD.eA aeX (HD.acW (env:=dH) Zhz)))))))))))))))))))))))
noncomputable def hq:Program:=HD.view pw [ht 0,ht 2,ht 3,ht 4,ht 5,ht 6,ht 7,ht 8,ht 9,ht 10,ht 11,ht 12,ht 13,ht 14,ht 15,ht 16,ht 18,ht 19,ht 20,ht 21,ht 22,ht 23,ht 24,ht 25,ht 26,ht 27,ht 28,ht 29,ht 31,ht 32,ht 33,ht 34,ht 36,ht 37,ht 38,ht 40,ht 41,ht 42,ht 43,ht 44,ht 45,ht 47,ht 49,ht 50,ht 51,ht 52,ht 53,ht 54,ht 55,ht 56,ht 57,ht 58,ht 59,ht 60,ht 61,ht 62,ht 63,ht 64,ht 65,ht 66,ht 67,ht 68,ht 69,ht 70,ht 71,ht 72,ht 73,ht 74,ht 75,ht 76]
noncomputable def hl:List Str:=[PySem.Str.ofString "KIDS_DUE",PySem.Str.ofString "BINDER_OVER",PySem.Str.ofString "RULES"]
noncomputable def aaS(r:List (Addr×Obj)):List (Addr×Obj):=(nat_lit 2,PySem.W.boot_o_2 P)::(nat_lit 3,Ld P)::(nat_lit 15,af)::(nat_lit 17,IM)::(nat_lit 18,af)::(nat_lit 20,J4)::(nat_lit 21,Jw)::(nat_lit 22,J7)::(nat_lit 29,af)::(nat_lit 31,K3)::(nat_lit 32,af)::(nat_lit 34,K1)::r
noncomputable def acV(r:List (Addr×Obj)):List (Addr×Obj):=(nat_lit 35,IT)::(nat_lit 36,af)::(nat_lit 37,HY P)::(nat_lit 38,BD)::(nat_lit 39,Iu)::(nat_lit 42,bw)::(nat_lit 49,af)::(nat_lit 51,La)::(nat_lit 52,af)::(nat_lit 54,KJ)::(nat_lit 55,KL)::(nat_lit 56,af)::r
noncomputable def acr(r:List (Addr×Obj)):List (Addr×Obj):=(nat_lit 57,JX P)::(nat_lit 58,Kt)::(nat_lit 61,bw)::(nat_lit 68,af)::(nat_lit 70,Jc)::(nat_lit 71,af)::(nat_lit 73,HH)::(nat_lit 74,LJ)::(nat_lit 75,af)::(nat_lit 76,K6 P)::(nat_lit 77,KN)::(nat_lit 80,bw)::r
noncomputable def adw(r:List (Addr×Obj)):List (Addr×Obj):=(nat_lit 87,af)::(nat_lit 89,Jx)::(nat_lit 90,af)::(nat_lit 92,Kv)::(nat_lit 93,Ko)::(nat_lit 94,af)::(nat_lit 95,Ib P)::(nat_lit 96,Kf)::(nat_lit 99,bw)::(nat_lit 106,af)::(nat_lit 108,BW)::(nat_lit 109,af)::r
noncomputable def aaQ(r:List (Addr×Obj)):List (Addr×Obj):=(nat_lit 111,B3)::(nat_lit 112,BS)::(nat_lit 113,af)::(nat_lit 114,BL P)::(nat_lit 115,By)::(nat_lit 118,bw)::(nat_lit 125,af)::(nat_lit 127,Bi)::(nat_lit 128,af)::(nat_lit 130,BE)::(nat_lit 131,B7)::(nat_lit 132,af)::r
noncomputable def abl(r:List (Addr×Obj)):List (Addr×Obj):=(nat_lit 133,BZ P)::(nat_lit 134,AZ)::(nat_lit 137,bw)::(nat_lit 144,af)::(nat_lit 146,BN)::(nat_lit 147,af)::(nat_lit 149,BG)::(nat_lit 150,CN)::(nat_lit 151,af)::(nat_lit 152,C0 P)::(nat_lit 153,Cc)::(nat_lit 156,bw)::r
noncomputable def abA(r:List (Addr×Obj)):List (Addr×Obj):=(nat_lit 163,af)::(nat_lit 165,CZ)::(nat_lit 166,af)::(nat_lit 168,CQ)::(nat_lit 169,Bd)::(nat_lit 170,af)::(nat_lit 171,Co P)::(nat_lit 172,Bz)::(nat_lit 175,bw)::(nat_lit 182,af)::(nat_lit 184,Cg)::(nat_lit 185,af)::r
noncomputable def adf(r:List (Addr×Obj)):List (Addr×Obj):=(nat_lit 187,Cs)::(nat_lit 188,CL)::(nat_lit 189,af)::(nat_lit 190,C1 P)::(nat_lit 191,BQ)::(nat_lit 194,bw)::(nat_lit 201,af)::(nat_lit 203,wV)::(nat_lit 204,af)::(nat_lit 206,uD)::(nat_lit 207,vG)::(nat_lit 208,af)::r
noncomputable def ace(r:List (Addr×Obj)):List (Addr×Obj):=(nat_lit 209,uo P)::(nat_lit 210,vb)::(nat_lit 213,bw)::(nat_lit 220,af)::(nat_lit 222,uL)::(nat_lit 223,af)::(nat_lit 225,uz)::(nat_lit 226,uQ)::(nat_lit 227,af)::(nat_lit 228,uZ P)::(nat_lit 229,uq)::(nat_lit 232,bw)::r
noncomputable def acA(r:List (Addr×Obj)):List (Addr×Obj):=(nat_lit 239,af)::(nat_lit 241,vp)::(nat_lit 242,af)::(nat_lit 244,xc)::(nat_lit 245,uS)::(nat_lit 246,af)::(nat_lit 247,sO P)::(nat_lit 248,wN)::(nat_lit 251,bw)::(nat_lit 258,af)::(nat_lit 260,tP)::(nat_lit 261,af)::r
noncomputable def Yz(r:List (Addr×Obj)):List (Addr×Obj):=(nat_lit 263,wB)::(nat_lit 264,vv)::(nat_lit 265,af)::(nat_lit 266,sM P)::(nat_lit 267,vF)::(nat_lit 270,bw)::(nat_lit 277,af)::(nat_lit 279,uN)::(nat_lit 280,af)::(nat_lit 282,rR)::(nat_lit 283,vO)::(nat_lit 284,af)::r
noncomputable def ZA(r:List (Addr×Obj)):List (Addr×Obj):=(nat_lit 285,ve P)::(nat_lit 286,wy)::(nat_lit 289,bw)::(nat_lit 296,af)::(nat_lit 298,uJ)::(nat_lit 299,af)::(nat_lit 301,wG)::(nat_lit 302,wZ)::(nat_lit 303,af)::(nat_lit 304,ue P)::(nat_lit 305,uh)::(nat_lit 308,vh P)::r
noncomputable def Yy(r:List (Addr×Obj)):List (Addr×Obj):=(nat_lit 309,af)::(nat_lit 310,af)::(nat_lit 311,vT)::(nat_lit 312,uH)::(nat_lit 313,vP)::(nat_lit 314,af)::(nat_lit 315,v_)::(nat_lit 316,uu)::(nat_lit 317,af)::(nat_lit 318,uV)::(nat_lit 319,s_)::(nat_lit 320,sW)::r
noncomputable def Yk(r:List (Addr×Obj)):List (Addr×Obj):=(nat_lit 321,vN)::(nat_lit 322,sU)::(nat_lit 323,vj)::(nat_lit 324,tJ)::(nat_lit 325,sN)::(nat_lit 327,af)::(nat_lit 328,wL P)::(nat_lit 329,af)::(nat_lit 331,sZ)::(nat_lit 332,af)::(nat_lit 334,wH)::(nat_lit 335,sR)::r
noncomputable def XG(r:List (Addr×Obj)):List (Addr×Obj):=(nat_lit 336,af)::(nat_lit 339,tH)::(nat_lit 340,tR)::(nat_lit 341,af)::(nat_lit 343,wQ)::(nat_lit 344,af)::(nat_lit 346,tV)::(nat_lit 347,wx)::(nat_lit 348,af)::(nat_lit 351,ug)::(nat_lit 352,rF)::(nat_lit 353,af)::r
noncomputable def aai(r:List (Addr×Obj)):List (Addr×Obj):=(nat_lit 356,rK)::(nat_lit 357,vH)::(nat_lit 358,af)::(nat_lit 360,uW)::(nat_lit 361,af)::(nat_lit 363,wt)::(nat_lit 364,tF)::(nat_lit 365,af)::(nat_lit 367,sk)::(nat_lit 368,af)::(nat_lit 370,uB)::(nat_lit 371,rH)::r
noncomputable def aaj(r:List (Addr×Obj)):List (Addr×Obj):=(nat_lit 372,af)::(nat_lit 374,tQ)::(nat_lit 375,af)::(nat_lit 377,wa)::(nat_lit 378,sE)::(nat_lit 379,af)::(nat_lit 381,uR)::(nat_lit 382,af)::(nat_lit 384,wM)::(nat_lit 385,sG)::(nat_lit 386,af)::(nat_lit 388,tD)::r
noncomputable def Yp(r:List (Addr×Obj)):List (Addr×Obj):=(nat_lit 389,af)::(nat_lit 391,vy)::(nat_lit 392,u7)::(nat_lit 393,af)::(nat_lit 395,tu)::(nat_lit 396,af)::(nat_lit 398,sJ)::(nat_lit 399,uw)::(nat_lit 400,af)::(nat_lit 403,uX)::(nat_lit 404,rJ)::(nat_lit 405,af)::r
noncomputable def Yx(r:List (Addr×Obj)):List (Addr×Obj):=(nat_lit 407,uv)::(nat_lit 408,xg)::(nat_lit 410,tj)::(nat_lit 411,wX)::(nat_lit 412,af)::(nat_lit 414,wq)::(nat_lit 415,tE)::(nat_lit 417,uC)::(nat_lit 418,tK)::(nat_lit 419,vi P)::(nat_lit 420,uP)::(nat_lit 421,uk)::r
noncomputable def Y9(r:List (Addr×Obj)):List (Addr×Obj):=(nat_lit 422,wu)::(nat_lit 423,sj)::(nat_lit 424,ux)::(nat_lit 425,sF)::(nat_lit 426,vq)::(nat_lit 427,tm)::(nat_lit 428,rV)::(nat_lit 429,wD)::(nat_lit 430,rY)::(nat_lit 431,af)::(nat_lit 433,rG)::(nat_lit 434,af)::r
noncomputable def Z2(r:List (Addr×Obj)):List (Addr×Obj):=(nat_lit 436,rC)::(nat_lit 437,tT)::(nat_lit 438,af)::(nat_lit 440,tq)::(nat_lit 441,af)::(nat_lit 443,vK)::(nat_lit 444,uO)::(nat_lit 445,af)::(nat_lit 447,wA)::(nat_lit 448,af)::(nat_lit 450,vo)::(nat_lit 451,rE)::r
noncomputable def Zr(r:List (Addr×Obj)):List (Addr×Obj):=(nat_lit 452,af)::(nat_lit 454,vZ)::(nat_lit 455,af)::(nat_lit 457,w_)::(nat_lit 458,sY)::(nat_lit 459,af)::(nat_lit 461,rM)::(nat_lit 462,af)::(nat_lit 464,tS)::(nat_lit 465,wK)::(nat_lit 466,af)::(nat_lit 468,vV)::r
noncomputable def Zc(r:List (Addr×Obj)):List (Addr×Obj):=(nat_lit 469,af)::(nat_lit 471,tZ)::(nat_lit 472,se)::(nat_lit 473,af)::(nat_lit 475,vW)::(nat_lit 476,af)::(nat_lit 478,wg)::(nat_lit 479,tX)::(nat_lit 480,af)::(nat_lit 482,rm)::(nat_lit 483,af)::(nat_lit 485,tI)::r
noncomputable def Y4(r:List (Addr×Obj)):List (Addr×Obj):=(nat_lit 486,rQ)::(nat_lit 487,af)::(nat_lit 490,sC)::(nat_lit 491,tW)::(nat_lit 492,af)::(nat_lit 494,wJ)::(nat_lit 495,af)::(nat_lit 497,wU)::(nat_lit 498,tO)::(nat_lit 499,af)::(nat_lit 501,uE)::(nat_lit 502,af)::r
noncomputable def aaE(r:List (Addr×Obj)):List (Addr×Obj):=(nat_lit 504,sr)::(nat_lit 505,um)::(nat_lit 506,af)::(nat_lit 508,uy)::(nat_lit 509,af)::(nat_lit 511,uM)::(nat_lit 512,t_)::(nat_lit 513,af)::(nat_lit 515,vz)::(nat_lit 516,af)::(nat_lit 518,rP)::(nat_lit 519,vg)::r
noncomputable def Xm(r:List (Addr×Obj)):List (Addr×Obj):=(nat_lit 520,af)::(nat_lit 522,rL)::(nat_lit 523,af)::(nat_lit 525,rT)::(nat_lit 526,vf)::(nat_lit 527,af)::(nat_lit 529,vI)::(nat_lit 530,af)::(nat_lit 532,wO)::(nat_lit 533,sL)::(nat_lit 534,af)::(nat_lit 536,vc)::r
noncomputable def aah(r:List (Addr×Obj)):List (Addr×Obj):=(nat_lit 537,af)::(nat_lit 539,sX)::(nat_lit 540,rN)::(nat_lit 541,af)::(nat_lit 543,w6)::(nat_lit 544,af)::(nat_lit 546,rZ)::(nat_lit 547,sd)::(nat_lit 548,af)::(nat_lit 550,sf)::(nat_lit 551,af)::(nat_lit 553,uT)::r
noncomputable def ZT(r:List (Addr×Obj)):List (Addr×Obj):=(nat_lit 554,vS)::(nat_lit 555,af)::(nat_lit 557,sT)::(nat_lit 558,af)::(nat_lit 560,uc)::(nat_lit 561,rW)::(nat_lit 562,af)::(nat_lit 564,sD)::(nat_lit 565,af)::(nat_lit 567,tU)::(nat_lit 568,r_)::(nat_lit 569,af)::r
noncomputable def X1(r:List (Addr×Obj)):List (Addr×Obj):=(nat_lit 571,wF)::(nat_lit 572,af)::(nat_lit 574,sP)::(nat_lit 575,ua)::(nat_lit 576,af)::(nat_lit 578,uI)::(nat_lit 579,af)::(nat_lit 581,rj)::(nat_lit 582,so)::(nat_lit 583,af)::(nat_lit 585,vJ)::(nat_lit 586,af)::r
noncomputable def aaf(r:List (Addr×Obj)):List (Addr×Obj):=(nat_lit 588,rX)::(nat_lit 589,vL)::(nat_lit 590,af)::(nat_lit 592,u9)::(nat_lit 593,af)::(nat_lit 595,u_)::(nat_lit 596,ub)::(nat_lit 597,af)::(nat_lit 599,wc)::(nat_lit 600,af)::(nat_lit 602,rS)::(nat_lit 603,tG)::r
noncomputable def aad(r:List (Addr×Obj)):List (Addr×Obj):=(nat_lit 604,af)::(nat_lit 606,wC)::(nat_lit 607,af)::(nat_lit 609,wW)::(nat_lit 610,tw)::(nat_lit 611,af)::(nat_lit 613,xa)::(nat_lit 614,af)::(nat_lit 616,sS)::(nat_lit 617,vU)::(nat_lit 618,af)::(nat_lit 620,vM)::r
noncomputable def YL(r:List (Addr×Obj)):List (Addr×Obj):=(nat_lit 621,af)::(nat_lit 623,sQ)::(nat_lit 624,vY)::(nat_lit 625,af)::(nat_lit 627,uF)::(nat_lit 628,af)::(nat_lit 630,tL)::(nat_lit 631,vd)::(nat_lit 632,af)::(nat_lit 634,uA)::(nat_lit 635,af)::(nat_lit 637,vR)::r
noncomputable def Y2(r:List (Addr×Obj)):List (Addr×Obj):=(nat_lit 638,tM)::(nat_lit 639,af)::(nat_lit 642,si)::(nat_lit 643,uK)::(nat_lit 644,af)::(nat_lit 646,vx)::(nat_lit 647,af)::(nat_lit 649,vX)::(nat_lit 650,xj)::(nat_lit 651,af)::(nat_lit 653,ur)::(nat_lit 654,af)::r
noncomputable def XN(r:List (Addr×Obj)):List (Addr×Obj):=(nat_lit 656,vQ)::(nat_lit 657,uU)::(nat_lit 658,af)::(nat_lit 660,wI)::(nat_lit 661,af)::(nat_lit 663,rO)::(nat_lit 664,xi)::r
noncomputable def aez(P:Params):List (Addr×Obj):=(aaS P (acV P (acr P (adw P (aaQ P (abl P (abA P (adf P (ace P (acA P (Yz P (ZA P (Yy (Yk P (XG (aai (aaj (Yp (Yx P (Y9 (Z2 (Zr (Zc (Y4 (aaE (Xm (aah (ZT (X1 (aaf (aad (YL (Y2 (XN []))))))))))))))))))))))))))))))))))
noncomputable def ZhK(P:Params):Frag:=(nat_lit 2,PySem.W.boot_o_2 P)::(nat_lit 3,Ld P)::(nat_lit 15,af)::(nat_lit 17,IM)::(nat_lit 18,af)::(nat_lit 20,J4)::(nat_lit 21,Jw)::(nat_lit 22,J7)::(nat_lit 29,af)::(nat_lit 31,K3)::(nat_lit 32,af)::(nat_lit 34,K1)::(nat_lit 35,IT)::(nat_lit 36,af)::(nat_lit 37,HY P)::(nat_lit 38,BD)::(nat_lit 39,Iu)::(nat_lit 42,bw)::(nat_lit 49,af)::(nat_lit 51,La)::(nat_lit 52,af)::(nat_lit 54,KJ)::(nat_lit 55,KL)::(nat_lit 56,af)::(nat_lit 57,JX P)::(nat_lit 58,Kt)::(nat_lit 61,bw)::(nat_lit 68,af)::(nat_lit 70,Jc)::(nat_lit 71,af)::(nat_lit 73,HH)::(nat_lit 74,LJ)::(nat_lit 75,af)::(nat_lit 76,K6 P)::(nat_lit 77,KN)::(nat_lit 80,bw)::(nat_lit 87,af)::(nat_lit 89,Jx)::(nat_lit 90,af)::(nat_lit 92,Kv)::(nat_lit 93,Ko)::(nat_lit 94,af)::(nat_lit 95,Ib P)::(nat_lit 96,Kf)::(nat_lit 99,bw)::(nat_lit 106,af)::(nat_lit 108,BW)::(nat_lit 109,af)::(nat_lit 111,B3)::(nat_lit 112,BS)::(nat_lit 113,af)::(nat_lit 114,BL P)::(nat_lit 115,By)::(nat_lit 118,bw)::(nat_lit 125,af)::(nat_lit 127,Bi)::(nat_lit 128,af)::(nat_lit 130,BE)::(nat_lit 131,B7)::(nat_lit 132,af)::(nat_lit 133,BZ P)::(nat_lit 134,AZ)::(nat_lit 137,bw)::(nat_lit 144,af)::(nat_lit 146,BN)::(nat_lit 147,af)::(nat_lit 149,BG)::(nat_lit 150,CN)::(nat_lit 151,af)::(nat_lit 152,C0 P)::(nat_lit 153,Cc)::(nat_lit 156,bw)::(nat_lit 163,af)::(nat_lit 165,CZ)::(nat_lit 166,af)::(nat_lit 168,CQ)::(nat_lit 169,Bd)::(nat_lit 170,af)::(nat_lit 171,Co P)::(nat_lit 172,Bz)::(nat_lit 175,bw)::(nat_lit 182,af)::(nat_lit 184,Cg)::(nat_lit 185,af)::(nat_lit 187,Cs)::(nat_lit 188,CL)::(nat_lit 189,af)::(nat_lit 190,C1 P)::(nat_lit 191,BQ)::(nat_lit 194,bw)::(nat_lit 201,af)::(nat_lit 203,wV)::(nat_lit 204,af)::(nat_lit 206,uD)::(nat_lit 207,vG)::(nat_lit 208,af)::(nat_lit 209,uo P)::(nat_lit 210,vb)::(nat_lit 213,bw)::(nat_lit 220,af)::(nat_lit 222,uL)::(nat_lit 223,af)::(nat_lit 225,uz)::(nat_lit 226,uQ)::(nat_lit 227,af)::(nat_lit 228,uZ P)::(nat_lit 229,uq)::(nat_lit 232,bw)::(nat_lit 239,af)::(nat_lit 241,vp)::(nat_lit 242,af)::(nat_lit 244,xc)::(nat_lit 245,uS)::(nat_lit 246,af)::(nat_lit 247,sO P)::(nat_lit 248,wN)::(nat_lit 251,bw)::(nat_lit 258,af)::(nat_lit 260,tP)::(nat_lit 261,af)::(nat_lit 263,wB)::(nat_lit 264,vv)::(nat_lit 265,af)::(nat_lit 266,sM P)::(nat_lit 267,vF)::(nat_lit 270,bw)::(nat_lit 277,af)::(nat_lit 279,uN)::(nat_lit 280,af)::(nat_lit 282,rR)::(nat_lit 283,vO)::(nat_lit 284,af)::(nat_lit 285,ve P)::(nat_lit 286,wy)::(nat_lit 289,bw)::(nat_lit 296,af)::(nat_lit 298,uJ)::(nat_lit 299,af)::(nat_lit 301,wG)::(nat_lit 302,wZ)::(nat_lit 303,af)::(nat_lit 304,ue P)::(nat_lit 305,uh)::(nat_lit 308,vh P)::(nat_lit 309,af)::(nat_lit 310,af)::(nat_lit 311,vT)::(nat_lit 312,uH)::(nat_lit 313,vP)::(nat_lit 314,af)::(nat_lit 315,v_)::(nat_lit 316,uu)::(nat_lit 317,af)::(nat_lit 318,uV)::(nat_lit 319,s_)::(nat_lit 320,sW)::(nat_lit 321,vN)::(nat_lit 322,sU)::(nat_lit 323,vj)::(nat_lit 324,tJ)::(nat_lit 325,sN)::(nat_lit 327,af)::(nat_lit 328,wL P)::(nat_lit 329,af)::(nat_lit 331,sZ)::(nat_lit 332,af)::(nat_lit 334,wH)::(nat_lit 335,sR)::(nat_lit 336,af)::(nat_lit 339,tH)::(nat_lit 340,tR)::(nat_lit 341,af)::(nat_lit 343,wQ)::(nat_lit 344,af)::(nat_lit 346,tV)::(nat_lit 347,wx)::(nat_lit 348,af)::(nat_lit 351,ug)::(nat_lit 352,rF)::(nat_lit 353,af)::(nat_lit 356,rK)::(nat_lit 357,vH)::(nat_lit 358,af)::(nat_lit 360,uW)::(nat_lit 361,af)::(nat_lit 363,wt)::(nat_lit 364,tF)::(nat_lit 365,af)::(nat_lit 367,sk)::(nat_lit 368,af)::(nat_lit 370,uB)::(nat_lit 371,rH)::(nat_lit 372,af)::(nat_lit 374,tQ)::(nat_lit 375,af)::(nat_lit 377,wa)::(nat_lit 378,sE)::(nat_lit 379,af)::(nat_lit 381,uR)::(nat_lit 382,af)::(nat_lit 384,wM)::(nat_lit 385,sG)::(nat_lit 386,af)::(nat_lit 388,tD)::(nat_lit 389,af)::(nat_lit 391,vy)::(nat_lit 392,u7)::(nat_lit 393,af)::(nat_lit 395,tu)::(nat_lit 396,af)::(nat_lit 398,sJ)::(nat_lit 399,uw)::(nat_lit 400,af)::(nat_lit 403,uX)::(nat_lit 404,rJ)::(nat_lit 405,af)::(nat_lit 407,uv)::(nat_lit 408,xg)::(nat_lit 410,tj)::(nat_lit 411,wX)::(nat_lit 412,af)::(nat_lit 414,wq)::(nat_lit 415,tE)::(nat_lit 417,uC)::(nat_lit 418,tK)::(nat_lit 419,vi P)::(nat_lit 420,uP)::(nat_lit 421,uk)::(nat_lit 422,wu)::(nat_lit 423,sj)::(nat_lit 424,ux)::(nat_lit 425,sF)::(nat_lit 426,vq)::(nat_lit 427,tm)::(nat_lit 428,rV)::(nat_lit 429,wD)::(nat_lit 430,rY)::(nat_lit 431,af)::(nat_lit 433,rG)::(nat_lit 434,af)::(nat_lit 436,rC)::(nat_lit 437,tT)::(nat_lit 438,af)::(nat_lit 440,tq)::(nat_lit 441,af)::(nat_lit 443,vK)::(nat_lit 444,uO)::(nat_lit 445,af)::(nat_lit 447,wA)::(nat_lit 448,af)::(nat_lit 450,vo)::(nat_lit 451,rE)::(nat_lit 452,af)::(nat_lit 454,vZ)::(nat_lit 455,af)::(nat_lit 457,w_)::(nat_lit 458,sY)::(nat_lit 459,af)::(nat_lit 461,rM)::(nat_lit 462,af)::(nat_lit 464,tS)::(nat_lit 465,wK)::(nat_lit 466,af)::(nat_lit 468,vV)::(nat_lit 469,af)::(nat_lit 471,tZ)::(nat_lit 472,se)::(nat_lit 473,af)::(nat_lit 475,vW)::(nat_lit 476,af)::(nat_lit 478,wg)::(nat_lit 479,tX)::(nat_lit 480,af)::(nat_lit 482,rm)::(nat_lit 483,af)::(nat_lit 485,tI)::(nat_lit 486,rQ)::(nat_lit 487,af)::(nat_lit 490,sC)::(nat_lit 491,tW)::(nat_lit 492,af)::(nat_lit 494,wJ)::(nat_lit 495,af)::(nat_lit 497,wU)::(nat_lit 498,tO)::(nat_lit 499,af)::(nat_lit 501,uE)::(nat_lit 502,af)::(nat_lit 504,sr)::(nat_lit 505,um)::(nat_lit 506,af)::(nat_lit 508,uy)::(nat_lit 509,af)::(nat_lit 511,uM)::(nat_lit 512,t_)::(nat_lit 513,af)::(nat_lit 515,vz)::(nat_lit 516,af)::(nat_lit 518,rP)::(nat_lit 519,vg)::(nat_lit 520,af)::(nat_lit 522,rL)::(nat_lit 523,af)::(nat_lit 525,rT)::(nat_lit 526,vf)::(nat_lit 527,af)::(nat_lit 529,vI)::(nat_lit 530,af)::(nat_lit 532,wO)::(nat_lit 533,sL)::(nat_lit 534,af)::(nat_lit 536,vc)::(nat_lit 537,af)::(nat_lit 539,sX)::(nat_lit 540,rN)::(nat_lit 541,af)::(nat_lit 543,w6)::(nat_lit 544,af)::(nat_lit 546,rZ)::(nat_lit 547,sd)::(nat_lit 548,af)::(nat_lit 550,sf)::(nat_lit 551,af)::(nat_lit 553,uT)::(nat_lit 554,vS)::(nat_lit 555,af)::(nat_lit 557,sT)::(nat_lit 558,af)::(nat_lit 560,uc)::(nat_lit 561,rW)::(nat_lit 562,af)::(nat_lit 564,sD)::(nat_lit 565,af)::(nat_lit 567,tU)::(nat_lit 568,r_)::(nat_lit 569,af)::(nat_lit 571,wF)::(nat_lit 572,af)::(nat_lit 574,sP)::(nat_lit 575,ua)::(nat_lit 576,af)::(nat_lit 578,uI)::(nat_lit 579,af)::(nat_lit 581,rj)::(nat_lit 582,so)::(nat_lit 583,af)::(nat_lit 585,vJ)::(nat_lit 586,af)::(nat_lit 588,rX)::(nat_lit 589,vL)::(nat_lit 590,af)::(nat_lit 592,u9)::(nat_lit 593,af)::(nat_lit 595,u_)::(nat_lit 596,ub)::(nat_lit 597,af)::(nat_lit 599,wc)::(nat_lit 600,af)::(nat_lit 602,rS)::(nat_lit 603,tG)::(nat_lit 604,af)::(nat_lit 606,wC)::(nat_lit 607,af)::(nat_lit 609,wW)::(nat_lit 610,tw)::(nat_lit 611,af)::(nat_lit 613,xa)::(nat_lit 614,af)::(nat_lit 616,sS)::(nat_lit 617,vU)::(nat_lit 618,af)::(nat_lit 620,vM)::(nat_lit 621,af)::(nat_lit 623,sQ)::(nat_lit 624,vY)::(nat_lit 625,af)::(nat_lit 627,uF)::(nat_lit 628,af)::(nat_lit 630,tL)::(nat_lit 631,vd)::(nat_lit 632,af)::(nat_lit 634,uA)::(nat_lit 635,af)::(nat_lit 637,vR)::(nat_lit 638,tM)::(nat_lit 639,af)::(nat_lit 642,si)::(nat_lit 643,uK)::(nat_lit 644,af)::(nat_lit 646,vx)::(nat_lit 647,af)::(nat_lit 649,vX)::(nat_lit 650,xj)::(nat_lit 651,af)::(nat_lit 653,ur)::(nat_lit 654,af)::(nat_lit 656,vQ)::(nat_lit 657,uU)::(nat_lit 658,af)::(nat_lit 660,wI)::(nat_lit 661,af)::(nat_lit 663,rO)::(nat_lit 664,xi)::[]
noncomputable def ZhA:List Addr:=[nat_lit 2,nat_lit 3,nat_lit 15,nat_lit 17,nat_lit 18,nat_lit 20,nat_lit 21,nat_lit 22,nat_lit 29,nat_lit 31,nat_lit 32,nat_lit 34,nat_lit 35,nat_lit 36,nat_lit 37,nat_lit 38,nat_lit 39,nat_lit 42,nat_lit 49,nat_lit 51,nat_lit 52,nat_lit 54,nat_lit 55,nat_lit 56,nat_lit 57,nat_lit 58,nat_lit 61,nat_lit 68,nat_lit 70,nat_lit 71,nat_lit 73,nat_lit 74,nat_lit 75,nat_lit 76,nat_lit 77,nat_lit 80,nat_lit 87,nat_lit 89,nat_lit 90,nat_lit 92,nat_lit 93,nat_lit 94,nat_lit 95,nat_lit 96,nat_lit 99,nat_lit 106,nat_lit 108,nat_lit 109,nat_lit 111,nat_lit 112,nat_lit 113,nat_lit 114,nat_lit 115,nat_lit 118,nat_lit 125,nat_lit 127,nat_lit 128,nat_lit 130,nat_lit 131,nat_lit 132,nat_lit 133,nat_lit 134,nat_lit 137,nat_lit 144,nat_lit 146,nat_lit 147,nat_lit 149,nat_lit 150,nat_lit 151,nat_lit 152,nat_lit 153,nat_lit 156,nat_lit 163,nat_lit 165,nat_lit 166,nat_lit 168,nat_lit 169,nat_lit 170,nat_lit 171,nat_lit 172,nat_lit 175,nat_lit 182,nat_lit 184,nat_lit 185,nat_lit 187,nat_lit 188,nat_lit 189,nat_lit 190,nat_lit 191,nat_lit 194,nat_lit 201,nat_lit 203,nat_lit 204,nat_lit 206,nat_lit 207,nat_lit 208,nat_lit 209,nat_lit 210,nat_lit 213,nat_lit 220,nat_lit 222,nat_lit 223,nat_lit 225,nat_lit 226,nat_lit 227,nat_lit 228,nat_lit 229,nat_lit 232,nat_lit 239,nat_lit 241,nat_lit 242,nat_lit 244,nat_lit 245,nat_lit 246,nat_lit 247,nat_lit 248,nat_lit 251,nat_lit 258,nat_lit 260,nat_lit 261,nat_lit 263,nat_lit 264,nat_lit 265,nat_lit 266,nat_lit 267,nat_lit 270,nat_lit 277,nat_lit 279,nat_lit 280,nat_lit 282,nat_lit 283,nat_lit 284,nat_lit 285,nat_lit 286,nat_lit 289,nat_lit 296,nat_lit 298,nat_lit 299,nat_lit 301,nat_lit 302,nat_lit 303,nat_lit 304,nat_lit 305,nat_lit 308,nat_lit 309,nat_lit 310,nat_lit 311,nat_lit 312,nat_lit 313,nat_lit 314,nat_lit 315,nat_lit 316,nat_lit 317,nat_lit 318,nat_lit 319,nat_lit 320,nat_lit 321,nat_lit 322,nat_lit 323,nat_lit 324,nat_lit 325,nat_lit 327,nat_lit 328,nat_lit 329,nat_lit 331,nat_lit 332,nat_lit 334,nat_lit 335,nat_lit 336,nat_lit 339,nat_lit 340,nat_lit 341,nat_lit 343,nat_lit 344,nat_lit 346,nat_lit 347,nat_lit 348,nat_lit 351,nat_lit 352,nat_lit 353,nat_lit 356,nat_lit 357,nat_lit 358,nat_lit 360,nat_lit 361,nat_lit 363,nat_lit 364,nat_lit 365,nat_lit 367,nat_lit 368,nat_lit 370,nat_lit 371,nat_lit 372,nat_lit 374,nat_lit 375,nat_lit 377,nat_lit 378,nat_lit 379,nat_lit 381,nat_lit 382,nat_lit 384,nat_lit 385,nat_lit 386,nat_lit 388,nat_lit 389,nat_lit 391,nat_lit 392,nat_lit 393,nat_lit 395,nat_lit 396,nat_lit 398,nat_lit 399,nat_lit 400,nat_lit 403,nat_lit 404,nat_lit 405,nat_lit 407,nat_lit 408,nat_lit 410,nat_lit 411,nat_lit 412,nat_lit 414,nat_lit 415,nat_lit 417,nat_lit 418,nat_lit 419,nat_lit 420,nat_lit 421,nat_lit 422,nat_lit 423,nat_lit 424,nat_lit 425,nat_lit 426,nat_lit 427,nat_lit 428,nat_lit 429,nat_lit 430,nat_lit 431,nat_lit 433,nat_lit 434,nat_lit 436,nat_lit 437,nat_lit 438,nat_lit 440,nat_lit 441,nat_lit 443,nat_lit 444,nat_lit 445,nat_lit 447,nat_lit 448,nat_lit 450,nat_lit 451,nat_lit 452,nat_lit 454,nat_lit 455,nat_lit 457,nat_lit 458,nat_lit 459,nat_lit 461,nat_lit 462,nat_lit 464,nat_lit 465,nat_lit 466,nat_lit 468,nat_lit 469,nat_lit 471,nat_lit 472,nat_lit 473,nat_lit 475,nat_lit 476,nat_lit 478,nat_lit 479,nat_lit 480,nat_lit 482,nat_lit 483,nat_lit 485,nat_lit 486,nat_lit 487,nat_lit 490,nat_lit 491,nat_lit 492,nat_lit 494,nat_lit 495,nat_lit 497,nat_lit 498,nat_lit 499,nat_lit 501,nat_lit 502,nat_lit 504,nat_lit 505,nat_lit 506,nat_lit 508,nat_lit 509,nat_lit 511,nat_lit 512,nat_lit 513,nat_lit 515,nat_lit 516,nat_lit 518,nat_lit 519,nat_lit 520,nat_lit 522,nat_lit 523,nat_lit 525,nat_lit 526,nat_lit 527,nat_lit 529,nat_lit 530,nat_lit 532,nat_lit 533,nat_lit 534,nat_lit 536,nat_lit 537,nat_lit 539,nat_lit 540,nat_lit 541,nat_lit 543,nat_lit 544,nat_lit 546,nat_lit 547,nat_lit 548,nat_lit 550,nat_lit 551,nat_lit 553,nat_lit 554,nat_lit 555,nat_lit 557,nat_lit 558,nat_lit 560,nat_lit 561,nat_lit 562,nat_lit 564,nat_lit 565,nat_lit 567,nat_lit 568,nat_lit 569,nat_lit 571,nat_lit 572,nat_lit 574,nat_lit 575,nat_lit 576,nat_lit 578,nat_lit 579,nat_lit 581,nat_lit 582,nat_lit 583,nat_lit 585,nat_lit 586,nat_lit 588,nat_lit 589,nat_lit 590,nat_lit 592,nat_lit 593,nat_lit 595,nat_lit 596,nat_lit 597,nat_lit 599,nat_lit 600,nat_lit 602,nat_lit 603,nat_lit 604,nat_lit 606,nat_lit 607,nat_lit 609,nat_lit 610,nat_lit 611,nat_lit 613,nat_lit 614,nat_lit 616,nat_lit 617,nat_lit 618,nat_lit 620,nat_lit 621,nat_lit 623,nat_lit 624,nat_lit 625,nat_lit 627,nat_lit 628,nat_lit 630,nat_lit 631,nat_lit 632,nat_lit 634,nat_lit 635,nat_lit 637,nat_lit 638,nat_lit 639,nat_lit 642,nat_lit 643,nat_lit 644,nat_lit 646,nat_lit 647,nat_lit 649,nat_lit 650,nat_lit 651,nat_lit 653,nat_lit 654,nat_lit 656,nat_lit 657,nat_lit 658,nat_lit 660,nat_lit 661,nat_lit 663,nat_lit 664]
noncomputable def hX(s:Shared):Bool:=xlAt hq [] s&&recOk [] s
noncomputable def Xu:List Addr:=[nat_lit 406,nat_lit 413]
noncomputable abbrev hH:Hook:=kmHook ZhK ZhA (λ_=>by kernel_rfl) Xu
noncomputable def Zqs:HD.iT ((Bool×Nat×Option Value)):=λw=>(λos=>((boot_heap w.params).isNs mainGlobals&&(Array.mk []:Array GenState).size==0,(boot_heap w.params).objs.size,(boot_heap w.params).nsMap mainGlobals "__annotations__"),λos=>(true,(nat_lit 11),(some (.ref 6))))
theorem ZJ:HD.sz (nat_lit 11) (some (.ref 6))=Zqs:=by kernel_rfl
name_quick V4 for Zqs by ZJ
theorem Zis(w:World):(Fast.V4 w).1=(Fast.V4 w).2:=by kernel_rfl
theorem Zhs:HD.Ok (HD.sz (nat_lit 11) (some (.ref 6))):=HD.iU Fast.V4_eq Zis
noncomputable def abt:HD.iT (Bool):=λw=>(λos=>(staticsOk (importedModules pw.main.body) (boot_heap w.params) (Si w.params)&&namesBound pw (Si w.params)&&gensDone (Vi w os)&&laidKept (boot_heap w.params) (Si w.params)),λos=>true)
theorem SN:HD.la pw Si Zd Zg=abt:=by kernel_rfl
name_quick NR for abt by SN
theorem afl(w:World):(Fast.NR w).1=(Fast.NR w).2:=by kernel_rfl
theorem ae0:HD.Ok (HD.la pw Si Zd Zg):=HD.iU Fast.NR_eq afl
noncomputable def aaO(w:World):=((λos:OsState=>openSeen hq hl (importedModules pw.main.body) hX true (Vi w os)),(λ_:OsState=>openGood hq hl))
theorem SK:HD.lb pw hq hl hX Si Zd Zg=aaO:=by kernel_rfl
name_quick Pr for aaO by SK
theorem ae9(w:World):(Fast.Pr w).1=(Fast.Pr w).2:=by kernel_rfl
theorem aef:HD.Ok (HD.lb pw hq hl hX Si Zd Zg):=HD.iU Fast.Pr_eq ae9
noncomputable def ado:HD.iT ((List (Option Obj)×List (Option Obj))):=λw=>(λos=>(ZhA.map (Vi w os).heap.get?,Xu.map (Vi w os).heap.get?),λos=>((aez w.params).map λp=>some p.2,Xu.map λ_=>some (tabObj #[])))
theorem UL:HD.lc hH Si Zd Zg=ado:=by kernel_rfl
name_quick PD for ado by UL
theorem aes(w:World):(Fast.PD w).1=(Fast.PD w).2:=by kernel_rfl
theorem ae8:HD.Ok (HD.lc hH Si Zd Zg):=HD.iU Fast.PD_eq aes
theorem hleft:LeftO pw hq hl hX hH.obs hH.val 11760:=HD.left (by kernel_rfl) (by decide) (λs=>by kernel_rfl) Zhs ac2 (by decide+kernel) ae0 aef ae8
end K23
end
open PySem PySem.W PyProof.Rows
set_option maxRecDepth 100000 in
set_option maxHeartbeats 0 in
theorem PySem.Challenge.cw_keeper_k23_normal_holds : PySem.Challenge.rw_keeper_k23_normal.Holds := by
  w_on; o_law
  refine PySem.W.holds_open (q := K23.hq) (loose := K23.hl) (Xt := K23.hX) (XP := PySem.W.XL K23.hq []) (Yf := PySem.W.Hook.obs K23.hH) (Ya := PySem.W.Hook.val K23.hH) (YP := PySem.W.Hook.says K23.hH) (N := 11760) K23.hleft (PySem.W.Hook.of _) (PySem.W.Hook.keeps _) (fun s e => PySem.W.xl_of s (Bool.and_eq_true_iff.mp e).1) PySem.W.XL.keeps (by rfl) (by rfl) (by rfl) (fun s e => PySem.W.recFacts_of (Bool.and_eq_true_iff.mp e).2) (by rfl) (by assumption) (by decide +kernel) ⟨rfl, rfl, rfl, rfl, rfl, by decide +kernel⟩ ?hw ?hc
  case hw => w_witness2
  delta K23.hH
  k_fill
  refine' K23.walk (l := PySem.Challenge.rw_keeper_k23_normal) (c1 := ?qc1) (T1 := ?qT1) (c2 := ?qc2) (T2 := ?qT2) rfl rfl (fun w h Y => PySem.W.km_in_of Y) ?h2_1 ?h3_1 ?h4_1 ?h2_2 ?h3_2 ?h4_2 ?hne12 ?F
  case F =>
    intro w mg fa h KX G hmg
    have h1_1 : PySem.W.tabIn (L2.KOf KX) "raised" = some (?qc1, ?qT1) := by
      dsimp only [L2.KOf]
      exact rfl
    have h2_1 : PySem.W.codeHdIn (L2.KOf KX) ?qc1 ?qT1 = true := by
      dsimp only [L2.KOf]
      kernel_rfl
    have h1_2 : PySem.W.tabIn (L2.KOf KX) "put_in" = some (?qc2, ?qT2) := by
      dsimp only [L2.KOf]
      exact rfl
    have h2_2 : PySem.W.codeHdIn (L2.KOf KX) ?qc2 ?qT2 = true := by
      dsimp only [L2.KOf]
      kernel_rfl
    have T : ∃ t, K23.Txt (L2.KOf KX) mg t := by
      dsimp only [L2.KOf]
      refine' K23.txt_mk KX G ?a0 ?a1 ?a2 ?a3 ?a4 ?a5 ?a6 ?a7 ?a8 ?a9 ?a10 ?a11 ?a12 ?a13 ?a14 ?a15 ?a16 ?a17 ?a18 ?a19 ?a20 ?a21 ?a22 ?a23 ?a24 ?a25 ?a26 ?a27 ?a28 ?a29 ?a30 ?a31 ?a32 ?a33 ?a34 ?a35 ?a36 ?a37 ?a38 ?a39 ?a40 ?a41 ?a42 ?a43 ?a44 ?a45 ?a46 ?a47 ?z_ValueError ?z_bool ?z_dict ?z_enumerate ?z_int ?z_isinstance ?z_len ?z_list ?z_max ?z_min ?z_range ?z_tuple ?z_zip ?g_MOST_KNOTS ?g_MOST_DEEP ?g_MOST_VARIABLE ?g_KIDS_DUE ?lk_KIDS_DUE ?sy_KIDS_DUE ?ks_KIDS_DUE ?rf_KIDS_DUE ?u0_KIDS_DUE ?v0_KIDS_DUE ?u1_KIDS_DUE ?v1_KIDS_DUE ?u2_KIDS_DUE ?v2_KIDS_DUE ?u3_KIDS_DUE ?v3_KIDS_DUE ?u4_KIDS_DUE ?v4_KIDS_DUE ?u5_KIDS_DUE ?v5_KIDS_DUE ?u6_KIDS_DUE ?v6_KIDS_DUE ?u7_KIDS_DUE ?v7_KIDS_DUE ?u8_KIDS_DUE ?v8_KIDS_DUE ?u9_KIDS_DUE ?v9_KIDS_DUE ?u10_KIDS_DUE ?v10_KIDS_DUE ?u11_KIDS_DUE ?v11_KIDS_DUE ?u12_KIDS_DUE ?v12_KIDS_DUE ?u13_KIDS_DUE ?v13_KIDS_DUE ?u14_KIDS_DUE ?v14_KIDS_DUE ?u15_KIDS_DUE ?v15_KIDS_DUE ?u16_KIDS_DUE ?v16_KIDS_DUE ?u17_KIDS_DUE ?v17_KIDS_DUE ?g_BINDER_OVER ?lk_BINDER_OVER ?sy_BINDER_OVER ?vs_BINDER_OVER ?g_RULES ?lk_RULES ?sy_RULES ?ks_RULES ?rf_RULES ?u0_RULES ?v0_RULES ?u0_0_RULES ?v0_0_RULES ?u1_RULES ?v1_RULES ?u1_0_RULES ?v1_0_RULES ?u1_1_RULES ?v1_1_RULES ?u2_RULES ?v2_RULES ?u2_0_RULES ?v2_0_RULES ?u3_RULES ?v3_RULES ?u3_0_RULES ?v3_0_RULES ?u4_RULES ?v4_RULES ?u4_0_RULES ?v4_0_RULES ?g_KeeperError ?g_Great ?g_NoPlace ?g_NoStep ?g_Dry ?g_NoVariable ?g_NoName ?g_NotAll ?g_NotSome ?g_NotSame ?g_Unlike ?g_NoText ?g_NoWord ?g_TwiceTold ?g_NotClosed ?x_e0 ?x_e1 ?x_e2 ?x_e3 ?x_e4 ?x_x0 ?x_c01 ?x_c02 ?x_c03 ?x_c04 ?x_c05 ?x_c06 ?x_s0 ?x_v0 ?x_k0_0 ?x_k0_1 ?x_k0_2 ?x_k0_3 ?x_a0 ?x_c11 ?x_c12 ?x_c13 ?x_c14 ?x_c15 ?x_c16 ?x_s1 ?x_v1 ?x_k1_0 ?x_k1_1 ?x_k1_2 ?x_k1_3 ?x_a1
      (case a0 => apply L3.dfi; iterate 4 k_is)
      (case a1 => apply L3.dfi; iterate 4 k_is)
      (case a2 => apply L3.dfi; iterate 4 k_is)
      (case a3 => apply L3.dfi; iterate 4 k_is)
      (case a4 => apply L3.dfi; iterate 4 k_is)
      (case a5 => apply L3.dfi; iterate 4 k_is)
      (case a6 => apply L3.dfi; iterate 4 k_is)
      (case a7 => apply L3.dfi; iterate 4 k_is)
      (case a8 => apply L3.dfi; iterate 4 k_is)
      (case a9 => apply L3.dfi; iterate 4 k_is)
      (case a10 => apply L3.dfi; iterate 4 k_is)
      (case a11 => apply L3.dfi; iterate 4 k_is)
      (case a12 => apply L3.dfi; iterate 4 k_is)
      (case a13 => apply L3.dfi; iterate 4 k_is)
      (case a14 => apply L3.dfi; iterate 4 k_is)
      (case a15 => apply L3.dfi; iterate 4 k_is)
      (case a16 => apply L3.dfi; iterate 4 k_is)
      (case a17 => apply L3.dfi; iterate 4 k_is)
      (case a18 => apply L3.dfi; iterate 4 k_is)
      (case a19 => apply L3.dfi; iterate 4 k_is)
      (case a20 => apply L3.dfi; iterate 4 k_is)
      (case a21 => apply L3.dfi; iterate 4 k_is)
      (case a22 => apply L3.dfi; iterate 4 k_is)
      (case a23 => apply L3.dfi; iterate 4 k_is)
      (case a24 => apply L3.dfi; iterate 4 k_is)
      (case a25 => apply L3.dfi; iterate 4 k_is)
      (case a26 => apply L3.dfi; iterate 4 k_is)
      (case a27 => apply L3.dfi; iterate 4 k_is)
      (case a28 => apply L3.dfi; iterate 4 k_is)
      (case a29 => apply L3.dfi; iterate 4 k_is)
      (case a30 => apply L3.dfi; iterate 4 k_is)
      (case a31 => apply L3.dfi; iterate 4 k_is)
      (case a32 => apply L3.dfi; iterate 4 k_is)
      (case a33 => apply L3.dfi; iterate 4 k_is)
      (case a34 => apply L3.dfi; iterate 4 k_is)
      (case a35 => apply L3.dfi; iterate 4 k_is)
      (case a36 => apply L3.dfi; iterate 4 k_is)
      (case a37 => apply L3.dfi; iterate 4 k_is)
      (case a38 => apply L3.dfi; iterate 4 k_is)
      (case a39 => apply L3.dfi; iterate 4 k_is)
      (case a40 => apply L3.dfi; iterate 4 k_is)
      (case a41 => apply L3.dfi; iterate 4 k_is)
      (case a42 => apply L3.dfi; iterate 4 k_is)
      (case a43 => apply L3.dfi; iterate 4 k_is)
      (case a44 => apply L3.dfi; iterate 4 k_is)
      (case a45 => apply L3.dfi; iterate 4 k_is)
      (case a46 => apply L3.dfi; iterate 4 k_is)
      (case a47 => apply L3.dfi; iterate 4 k_is)
      (case z_ValueError => k_is)
      (case z_bool => k_is)
      (case z_dict => k_is)
      (case z_enumerate => k_is)
      (case z_int => k_is)
      (case z_isinstance => k_is)
      (case z_len => k_is)
      (case z_list => k_is)
      (case z_max => k_is)
      (case z_min => k_is)
      (case z_range => k_is)
      (case z_tuple => k_is)
      (case z_zip => k_is)
      (case g_MOST_KNOTS => k_is)
      (case g_MOST_DEEP => k_is)
      (case g_MOST_VARIABLE => k_is)
      (case g_KIDS_DUE => k_is)
      (case lk_KIDS_DUE => k_is)
      (case sy_KIDS_DUE => decide +kernel)
      (case ks_KIDS_DUE => kernel_rfl)
      (case rf_KIDS_DUE => (dsimp only [HD.e]; rfl))
      (case u0_KIDS_DUE => k_is)
      (case v0_KIDS_DUE => decide +kernel)
      (case u1_KIDS_DUE => k_is)
      (case v1_KIDS_DUE => decide +kernel)
      (case u2_KIDS_DUE => k_is)
      (case v2_KIDS_DUE => decide +kernel)
      (case u3_KIDS_DUE => k_is)
      (case v3_KIDS_DUE => decide +kernel)
      (case u4_KIDS_DUE => k_is)
      (case v4_KIDS_DUE => decide +kernel)
      (case u5_KIDS_DUE => k_is)
      (case v5_KIDS_DUE => decide +kernel)
      (case u6_KIDS_DUE => k_is)
      (case v6_KIDS_DUE => decide +kernel)
      (case u7_KIDS_DUE => k_is)
      (case v7_KIDS_DUE => decide +kernel)
      (case u8_KIDS_DUE => k_is)
      (case v8_KIDS_DUE => decide +kernel)
      (case u9_KIDS_DUE => k_is)
      (case v9_KIDS_DUE => decide +kernel)
      (case u10_KIDS_DUE => k_is)
      (case v10_KIDS_DUE => decide +kernel)
      (case u11_KIDS_DUE => k_is)
      (case v11_KIDS_DUE => decide +kernel)
      (case u12_KIDS_DUE => k_is)
      (case v12_KIDS_DUE => decide +kernel)
      (case u13_KIDS_DUE => k_is)
      (case v13_KIDS_DUE => decide +kernel)
      (case u14_KIDS_DUE => k_is)
      (case v14_KIDS_DUE => decide +kernel)
      (case u15_KIDS_DUE => k_is)
      (case v15_KIDS_DUE => decide +kernel)
      (case u16_KIDS_DUE => k_is)
      (case v16_KIDS_DUE => decide +kernel)
      (case u17_KIDS_DUE => k_is)
      (case v17_KIDS_DUE => decide +kernel)
      (case g_BINDER_OVER => k_is)
      (case lk_BINDER_OVER => k_is)
      (case sy_BINDER_OVER => decide +kernel)
      (case vs_BINDER_OVER => kernel_rfl)
      (case g_RULES => k_is)
      (case lk_RULES => k_is)
      (case sy_RULES => decide +kernel)
      (case ks_RULES => kernel_rfl)
      (case rf_RULES => (dsimp only [HD.e]; rfl))
      (case u0_RULES => k_is)
      (case v0_RULES => rfl)
      (case u0_0_RULES => k_is)
      (case v0_0_RULES => decide +kernel)
      (case u1_RULES => k_is)
      (case v1_RULES => rfl)
      (case u1_0_RULES => k_is)
      (case v1_0_RULES => decide +kernel)
      (case u1_1_RULES => k_is)
      (case v1_1_RULES => decide +kernel)
      (case u2_RULES => k_is)
      (case v2_RULES => rfl)
      (case u2_0_RULES => k_is)
      (case v2_0_RULES => decide +kernel)
      (case u3_RULES => k_is)
      (case v3_RULES => rfl)
      (case u3_0_RULES => k_is)
      (case v3_0_RULES => decide +kernel)
      (case u4_RULES => k_is)
      (case v4_RULES => rfl)
      (case u4_0_RULES => k_is)
      (case v4_0_RULES => decide +kernel)
      (case g_KeeperError => k_is)
      (case g_Great => k_is)
      (case g_NoPlace => k_is)
      (case g_NoStep => k_is)
      (case g_Dry => k_is)
      (case g_NoVariable => k_is)
      (case g_NoName => k_is)
      (case g_NotAll => k_is)
      (case g_NotSome => k_is)
      (case g_NotSame => k_is)
      (case g_Unlike => k_is)
      (case g_NoText => k_is)
      (case g_NoWord => k_is)
      (case g_TwiceTold => k_is)
      (case g_NotClosed => k_is)
      (case x_e0 => kernel_rfl)
      (case x_e1 => kernel_rfl)
      (case x_e2 => kernel_rfl)
      (case x_e3 => kernel_rfl)
      (case x_e4 => kernel_rfl)
      (case x_x0 => k_is)
      (case x_c01 => k_is)
      (case x_c02 => k_is)
      (case x_c03 => k_is)
      (case x_c04 => k_is)
      (case x_c05 => k_is)
      (case x_c06 => kernel_rfl)
      (case x_s0 => k_is)
      (case x_v0 => kernel_rfl)
      (case x_k0_0 => kernel_rfl)
      (case x_k0_1 => kernel_rfl)
      (case x_k0_2 => kernel_rfl)
      (case x_k0_3 => kernel_rfl)
      (case x_a0 => kernel_rfl)
      (case x_c11 => k_is)
      (case x_c12 => k_is)
      (case x_c13 => k_is)
      (case x_c14 => k_is)
      (case x_c15 => k_is)
      (case x_c16 => kernel_rfl)
      (case x_s1 => k_is)
      (case x_v1 => kernel_rfl)
      (case x_k1_0 => kernel_rfl)
      (case x_k1_1 => kernel_rfl)
      (case x_k1_2 => kernel_rfl)
      (case x_k1_3 => kernel_rfl)
      (case x_a1 => kernel_rfl)
    obtain ⟨t, T⟩ := T
    exact K23.fin KX G h1_1 h2_1 h1_2 h2_2 T hmg
  case h2_1 => intro w; kernel_rfl
  case h3_1 => intro w; kernel_rfl
  case h4_1 => exact fun w h Y => PySem.W.km_tabs_of Y _ (by decide)
  case h2_2 => intro w; kernel_rfl
  case h3_2 => intro w; kernel_rfl
  case h4_2 => exact fun w h Y => PySem.W.km_tabs_of Y _ (by decide)
  case hne12 => decide
