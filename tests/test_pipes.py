"""Pipe, [48], letters, [49], Sender, [50], Receiver, [51], and the saved states of a pipe, [8]."""

import copy
import random
import unittest

from tests.cases import WardCase
from tests.values import NO_WORDS, is_plain, no_integers_of, no_words_of, spoil
from wardwork.errors import BadArgument, Full, WrongState
from wardwork.pipes import Pipe, Receiver, Sender, pack_letter, unpack_letters

NO_ROOMS = no_integers_of(1, 16)
NO_COUNTS = no_integers_of(1, 64)


def seen(pipe):
    return (pipe.room, pipe.size, pipe.sent, pipe.received, list(pipe))


def pipe_of(room, *words):
    pipe = Pipe(room)
    for word in words:
        pipe.send(word)
    return pipe


def random_letter(chance):
    return [chance.randrange(65536) for _ in range(chance.randrange(8))]


class PipeTest(WardCase):
    def test_words_come_out_in_their_order(self):
        pipe = Pipe(3)
        self.same((3, 0, 0, 0, []), seen(pipe))
        self.assertIs(True, pipe.send(7))
        self.assertIs(True, pipe.send(word=0))
        self.assertIs(True, pipe.send(65535))
        self.same((3, 3, 3, 0, [7, 0, 65535]), seen(pipe))
        self.same(7, pipe.receive())
        self.same((3, 2, 3, 1, [0, 65535]), seen(pipe))
        self.assertIs(True, pipe.send(1))
        self.same([0, 65535, 1, None], [pipe.receive() for _ in range(4)])
        self.same((3, 0, 4, 4, []), seen(pipe))

    def test_a_full_pipe_and_an_empty_one(self):
        for room in (1, 2, 16):
            pipe = Pipe(room=room)
            self.assertIsNone(pipe.receive())
            self.assertEqual([True] * room, [pipe.send(word) for word in range(room)])
            before = seen(pipe)
            self.assertIs(False, pipe.send(9))
            self.assertIs(False, pipe.send(9))
            self.assertEqual(before, seen(pipe))
            self.assertEqual([*range(room), None, None], [pipe.receive() for _ in range(room + 2)])
            self.same((room, 0, room, room, []), seen(pipe))
        self.assertEqual(4, Pipe().room)

    def test_iterating_gives_the_words_and_takes_none(self):
        pipe = pipe_of(4, 5, 6, 7)
        before = seen(pipe)
        self.same([(one, other) for one in (5, 6, 7) for other in (5, 6, 7)],
                  [(one, other) for one in pipe for other in pipe])
        first, second = iter(pipe), iter(pipe)
        self.same([5, 5, 6, 7, 6, 7], [next(first), next(second), next(first), next(first), next(second), next(second)])
        self.assertEqual([[], []], [list(first), list(second)])
        self.assertEqual([(5, 5), (6, 6), (7, 7)], list(zip(pipe, pipe)))
        self.assertEqual(before, seen(pipe))
        self.assertEqual([], list(Pipe(1)))
        pipe.receive()
        pipe.send(8)
        self.assertEqual([6, 7, 8], list(pipe))

    def test_arguments_are_asked(self):
        self.refused(Pipe, {"room": 1}, {"room": NO_ROOMS})
        for pipe in (pipe_of(2, 1), pipe_of(1, 1), Pipe(1)):
            self.refused(pipe.send, {"word": 1}, {"word": NO_WORDS}, lambda: seen(pipe))

    def test_random_calls_agree_with_a_model(self):
        for seed in range(10):
            chance = random.Random(seed)
            pipe, sent, received = Pipe(chance.randrange(1, 17)), [], []
            for _ in range(200):
                if chance.randrange(2):
                    word = chance.randrange(65536)
                    fits = len(sent) - len(received) < pipe.room
                    self.assertIs(fits, pipe.send(word))
                    sent.extend([word] if fits else [])
                else:
                    word = pipe.receive()
                    received.extend([] if word is None else [word])
                self.same((pipe.room, len(sent) - len(received), len(sent), len(received), sent[len(received):]),
                          seen(pipe))
                self.assertEqual(sent[:len(received)], received)


class StateTest(WardCase):
    def test_a_restored_pipe_goes_on_alike(self):
        for seed in range(20):
            chance = random.Random(seed)
            first = Pipe(chance.randrange(1, 17))
            self.go_on(first, [chance.randrange(-1, 9) for _ in range(30)])
            before, state = seen(first), first.state()
            self.assertTrue(is_plain(state))
            self.assertEqual(before, seen(first))
            kept = copy.deepcopy(state)
            second = Pipe.restored(state)
            self.same((before, state), (seen(second), second.state()))
            calls = [chance.randrange(-2, 9) for _ in range(30)]
            told = self.go_on(second, calls)
            self.same((kept, before), (state, seen(first)))
            self.same(told, self.go_on(first, calls))
            self.same((seen(second), second.state()), (seen(first), first.state()))
            self.same(before, seen(Pipe.restored(kept)))

    def go_on(self, pipe, calls):
        return [pipe.receive() if word < 0 else pipe.send(word) for word in calls]

    def test_changing_a_state_changes_nothing(self):
        pipe = pipe_of(4, 1, 2, 3)
        pipe.receive()
        before, state = seen(pipe), pipe.state()
        second, third = Pipe.restored(state), pipe.restored(copy.deepcopy(state))
        spoil(state)
        self.assertEqual([before] * 3, [seen(one) for one in (pipe, second, third)])
        second.send(5)
        second.receive()
        self.assertEqual([before] * 2, [seen(one) for one in (pipe, third)])
        self.assertIsInstance(second, Pipe)


class LettersTest(WardCase):
    def test_pack_letter(self):
        self.same([0], pack_letter([]))
        self.same([1, 0], pack_letter([0]))
        self.same([7, 1, 2, 3, 4, 5, 6, 65535], pack_letter(letter=[1, 2, 3, 4, 5, 6, 65535]))
        self.refused(pack_letter, {"letter": []}, {"letter": no_words_of(0, 7)})

    def test_unpack_letters(self):
        self.same(([], []), unpack_letters([]))
        self.same(([[]], []), unpack_letters([0]))
        self.same(([[], [5], []], []), unpack_letters(words=[0, 1, 5, 0]))
        self.same(([[9, 8, 7]], []), unpack_letters([3, 9, 8, 7]))
        self.same(([[0] * 7], []), unpack_letters([7] + [0] * 7))
        self.same(([[]] * 400, []), unpack_letters([0] * 400))
        self.same(([[65535] * 7] * 50, []), unpack_letters([7, *[65535] * 7] * 50))

    def test_a_last_letter_that_is_not_complete(self):
        self.same(([], [1]), unpack_letters([1]))
        self.same(([], [3, 9, 8]), unpack_letters([3, 9, 8]))
        self.same(([[]], [7, 9]), unpack_letters([0, 7, 9]))
        self.same(([[7]] * 199, [2, 9]), unpack_letters([1, 7] * 199 + [2, 9]))
        # The words of a letter that is not complete are no lengths.
        self.same(([[8]], [2, 65535]), unpack_letters([1, 8, 2, 65535]))

    def test_a_length_greater_than_7(self):
        for words in ([8], [65535], [0, 8], [1, 5, 8], [8, 0], [1, 5, 8, 1, 5], [0] * 399 + [8], [2, 8, 8, 8],
                      [8] + [0] * 8, [7, 1, 2, 3, 4, 5, 6, 7, 9]):
            self.raised(BadArgument, {"name": "words"}, unpack_letters, words)

    def test_arguments_are_asked(self):
        self.refused(unpack_letters, {"words": []}, {"words": no_words_of(0, 400)})

    def test_back_and_forth(self):
        chance = random.Random(0)
        for _ in range(200):
            letters = [random_letter(chance) for _ in range(chance.randrange(8))]
            words = [word for letter in letters for word in pack_letter(letter)]
            self.same((letters, []), unpack_letters(words))
            last = pack_letter([chance.randrange(65536) for _ in range(7)])
            rest = last[:chance.randrange(8)]
            self.same((letters, rest), unpack_letters(words + rest))

    def test_lists_are_new(self):
        letter, words = [1, 2], [2, 5, 6, 3, 1]
        pack_letter(letter).clear()
        letters, rest = unpack_letters(words)
        letters[0].clear()
        letters.clear()
        rest.clear()
        self.assertEqual(([1, 2], [2, 5, 6, 3, 1]), (letter, words))
        self.assertEqual(([[5, 6]], [3, 1]), unpack_letters(words))


class SenderTest(WardCase):
    def test_post_and_push(self):
        pipe = Pipe(4)
        sender = Sender(pipe=pipe)
        self.same(0, sender.pending)
        self.same(0, sender.push())
        self.assertIsNone(sender.post([5, 6]))
        self.assertIsNone(sender.post(letter=[]))
        self.same((4, []), (sender.pending, list(pipe)))
        self.same(1, sender.push())
        self.same((3, [2]), (sender.pending, list(pipe)))
        self.same(2, sender.push(count=2))
        self.same((1, [2, 5, 6]), (sender.pending, list(pipe)))
        sender.post([7])
        # Beyond the room, as many as fit.
        self.same(1, sender.push(64))
        self.same((2, [2, 5, 6, 0]), (sender.pending, list(pipe)))
        self.same(0, sender.push(1))
        pipe.receive()
        pipe.receive()
        pipe.receive()
        # Beyond the outbox, as many as there are.
        self.same(2, sender.push(64))
        self.same((0, [0, 1, 7]), (sender.pending, list(pipe)))
        self.same((4, 3, 6, 3, [0, 1, 7]), seen(pipe))

    def test_an_outbox_of_64_words(self):
        sender = Sender(Pipe(1))
        for _ in range(8):
            sender.post([1] * 7)
        self.same(64, sender.pending)
        for letter in ([], [1], [1] * 7):
            self.raised(Full, {"what": "sender"}, sender.post, letter)
        self.same(64, sender.pending)
        sender.push()
        self.raised(Full, {"what": "sender"}, sender.post, [1])
        sender.post([])
        self.same(64, sender.pending)
        sender = Sender(Pipe(1))
        for _ in range(19):
            sender.post([1, 1])
        self.raised(Full, {"what": "sender"}, sender.post, [1] * 7)
        sender.post([1] * 6)
        self.same(64, sender.pending)

    def test_making_one_moves_no_word(self):
        pipe = pipe_of(4, 9, 3)
        before = seen(pipe)
        sender, receiver = Sender(pipe), Receiver(pipe)
        self.assertEqual(before, seen(pipe))
        self.assertEqual((0, []), (sender.pending, receiver.partial))

    def test_several_on_one_pipe(self):
        pipe = Pipe(5)
        first, second = Sender(pipe), Sender(pipe)
        first.post([1, 1])
        second.post([2])
        self.assertEqual((3, 2), (first.pending, second.pending))
        self.assertEqual([1, 1, 1, 1], [first.push(), second.push(), first.push(), second.push()])
        self.assertEqual((1, 0, [2, 1, 1, 2]), (first.pending, second.pending, list(pipe)))

    def test_the_letter_is_not_kept(self):
        pipe, letter = Pipe(8), [5, 6]
        sender = Sender(pipe)
        sender.post(letter)
        letter[0] = 9
        letter.append(7)
        sender.push(8)
        self.assertEqual([2, 5, 6], list(pipe))
        self.assertEqual([9, 6, 7], letter)

    def test_arguments_are_asked(self):
        pipe = Pipe(4)
        sender = Sender(pipe)
        sender.post([1])
        self.refused(sender.post, {"letter": []}, {"letter": no_words_of(0, 7)}, lambda: (sender.pending, seen(pipe)))
        self.refused(sender.push, {"count": 1}, {"count": NO_COUNTS}, lambda: (sender.pending, seen(pipe)))
        # The wrong letter goes ahead of Full.
        for _ in range(31):
            sender.post([1])
        self.refused(sender.post, {"letter": []}, {"letter": no_words_of(0, 7)}, lambda: sender.pending)


class ReceiverTest(WardCase):
    def test_pull(self):
        pipe = pipe_of(16, 2, 5, 6, 0, 1, 7, 3, 8)
        receiver = Receiver(pipe=pipe)
        self.same([], receiver.partial)
        self.same([], receiver.pull())
        self.same([2], receiver.partial)
        self.same([[5, 6]], receiver.pull(2))
        self.same([], receiver.partial)
        self.same([[], [7]], receiver.pull(count=4))
        self.same(([3], [8]), (receiver.partial, list(pipe)))
        self.same([], receiver.pull(64))
        self.same(([3, 8], []), (receiver.partial, list(pipe)))
        self.same([], receiver.pull(64))
        pipe.send(9)
        pipe.send(10)
        pipe.send(0)
        pipe.send(7)
        self.same([[8, 9, 10], []], receiver.pull(64))
        self.same(([7], (16, 0, 12, 12, [])), (receiver.partial, seen(pipe)))

    def test_no_words_and_letters_of_none(self):
        pipe = Pipe(4)
        receiver = Receiver(pipe)
        self.same([], receiver.pull(64))
        for _ in range(3):
            pipe.send(0)
        self.same([[], []], receiver.pull(2))
        self.same([[]], receiver.pull(2))
        self.same((4, 0, 3, 3, []), seen(pipe))

    def test_a_length_greater_than_7_changes_nothing(self):
        for words, good in (([8], 0), ([0, 8], 1), ([1, 5, 65535], 2), ([2, 8, 8, 8], 3), ([0, 0, 9, 1], 2)):
            for count in range(1, 65):
                pipe = pipe_of(16, *words)
                receiver = Receiver(pipe)
                before = seen(pipe)
                if count > good:
                    self.raised(WrongState, {"what": "receiver"}, receiver.pull, count)
                    self.assertEqual((before, []), (seen(pipe), receiver.partial))
                else:
                    receiver.pull(count)
                    self.assertEqual(len(words) - count, pipe.size)

    def test_a_wrong_length_behind_a_letter_that_was_begun(self):
        pipe = pipe_of(16, 2, 5, 6, 9)
        receiver = Receiver(pipe)
        receiver.pull(2)
        self.raised(WrongState, {"what": "receiver"}, receiver.pull, 2)
        self.raised(WrongState, {"what": "receiver"}, receiver.pull, 64)
        self.assertEqual(([2, 5], [6, 9]), (receiver.partial, list(pipe)))
        self.assertEqual([[5, 6]], receiver.pull(1))
        self.raised(WrongState, {"what": "receiver"}, receiver.pull)
        # Somebody else may take the wrong word.
        self.assertEqual(9, pipe.receive())
        self.assertEqual([], receiver.pull())

    def test_several_on_one_pipe(self):
        pipe = pipe_of(16, 2, 1, 5, 6, 9, 0)
        first, second = Receiver(pipe), Receiver(pipe)
        self.assertEqual([[], []], [first.pull(), second.pull()])
        self.assertEqual(([2], [1]), (first.partial, second.partial))
        self.assertEqual([], first.pull(1))
        self.assertEqual([[6]], second.pull())
        # Each goes by the words that it takes itself.
        self.assertEqual(9, pipe.receive())
        self.assertEqual([[5, 0]], first.pull())
        self.assertEqual(([], []), (first.partial, second.partial))

    def test_lists_are_not_handed_out(self):
        pipe = pipe_of(4, 2, 5, 6)
        receiver = Receiver(pipe)
        receiver.pull(2)
        receiver.partial.clear()
        self.assertEqual([2, 5], receiver.partial)
        letters = receiver.pull(1)
        letters[0].append(9)
        self.assertEqual(([], []), (receiver.partial, receiver.pull(1)))

    def test_arguments_are_asked(self):
        for words in ([1, 5], [9], []):
            pipe = pipe_of(4, *words)
            receiver = Receiver(pipe)
            self.refused(receiver.pull, {"count": 1}, {"count": NO_COUNTS}, lambda: (receiver.partial, seen(pipe)))


class BothTest(WardCase):
    def test_letters_in_every_order_of_calls(self):
        for seed in range(40):
            chance = random.Random(seed)
            pipe = Pipe(chance.randrange(1, 17))
            sender, receiver, posted, got = Sender(pipe), Receiver(pipe), [], []
            for _ in range(200):
                call = chance.choice(["post", "push", "push", "pull", "pull"])
                if call == "post":
                    letter = random_letter(chance)
                    if sender.pending + 1 + len(letter) > 64:
                        self.raised(Full, {"what": "sender"}, sender.post, letter)
                    else:
                        sender.post(letter)
                        posted.append(letter)
                elif call == "push":
                    self.check_push(chance, pipe, sender)
                else:
                    got.extend(self.check_pull(chance, pipe, receiver))
                self.same(posted[:len(got)], got)
            while sender.pending or pipe.size:
                sender.push(64)
                got.extend(receiver.pull(64))
            self.same((posted, []), (got, receiver.partial))

    def check_push(self, chance, pipe, sender):
        count, pending, size, sent = chance.randrange(1, 65), sender.pending, pipe.size, pipe.sent
        moved = sender.push(count)
        self.same(min(count, pending, pipe.room - size), moved)
        self.assertEqual((pending - moved, sent + moved), (sender.pending, pipe.sent))

    def check_pull(self, chance, pipe, receiver):
        count, size, received = chance.randrange(1, 65), pipe.size, pipe.received
        words = receiver.partial + list(pipe)[:count]
        letters = receiver.pull(count)
        self.same(unpack_letters(words), (letters, receiver.partial))
        self.assertEqual(received + min(count, size), pipe.received)
        return letters


if __name__ == "__main__":
    unittest.main()
