"""Images of machines, like, machine_of and == ([15])."""

import unittest

from handledeeds.machine import Machine, machine_of
from handledeeds.machineimage import alike_so_far
from handledeeds.quick import slowed
from handledeeds.rows import rows_of
from handledeeds.termtext import term_in
from tests.chance import Maker
from tests.test_machine import machine_for
from tests.test_treerun import RUNS

# With what is kept, quick answers that wait, wards being cleaned, called answerers entered twice, functions, pairs.
MANY = [
    "deep two ask get 1 ask get 2 x x 1 many get u k two call k 3 call k 4",
    "deep deep plus 1 ask get 1 x x 1 quick get u plus 10 ask stop 4 x x 1 many stop u k two call k 100 call k 200",
    "deep deep ward ward ward ask get 1 2 ask stop 3 4 x x 1 end get u u x x 1 end stop u u",
    "deep under h let y ask get 1 plus y askof h put 10 x x 1 many put u k plus call k u 100 x x 1 many get u k two call k 1 call k 2",
    "call rec r f under h call f fun x askof h get x x x 1 quick get u 9 fun g call g 1",
    "let p two 1 two 2 fun x x let k deep fun z plus z ask get 1 x x 1 many get u k two k two k p let g fun y two p two k y call g k",
    "deep deep past thing plus ask thing 1 ask thing 2 x x 1 quick thing u 9 x x 1 many thing u k call k plus u 10",
    "call shallow past thing deep fun s plus s ask thing 1 x x 0 x x 1 many thing u k k 3",
    "ward let f fun x two x ask out x call f 5 ask out 6",
    "call 1 2", "plus fun x x 1", "two ask out 1 two ask out 2 first 7",
]

TEXTS = [*MANY, *[text for text, _, _, _ in RUNS]]

# What is kept holds, again and again, what was kept before, and somewhat more.
GROWING = [
    "deep call rec f x if x let y ask get x plus y call f less x 1 0 12 x x 1 many get u k plus call k u 1",
    "under h call rec f x if x let y askof h put x plus y call f less x 1 0 9 x x 2 quick get u u many put u k call k u",
    "deep deep call rec f x if x let y ask get ask put x plus y call f less x 1 0 7 x x 1 many put u k call k u x x 1 many get u k call k u",
    "call deep call rec f x if x let y let z ask get x ask put z plus y call f less x 1 0 6 x fun s x 2 "
    "many get u k fun s call call k s s many put v k fun s call call k 0 v 5",
    "shallow call rec f x if x let y ask put x two y ward call f less x 1 x 0 5 x x 1 many put u k "
    "shallow call k u x x 1 many put u k two call k 1 k",
]


def is_plain(thing):
    """Whether it's made of numbers, texts, None and tuples alone."""
    if type(thing) is tuple:
        return all([is_plain(part) for part in thing])
    return thing is None or type(thing) in (int, str)


def mentioned(thing):
    """The numbers of all things that are mentioned, one behind the other."""
    if type(thing) is tuple and len(thing) == 2 and thing[0] == "*":
        yield thing[1]
    elif type(thing) is tuple:
        for part in thing:
            yield from mentioned(part)


def state(machine):
    return (machine.outcome(), machine.trace(), machine.counts(), machine.steps(), machine.moved(), machine.depth())


def forward(machine):
    """A row more, or an answer where it waits: whether there was one."""
    if machine.go(steps=1) == 1:
        return True
    if machine.outcome()[0] == "asks" and machine.counts()[1] < 6:
        machine.answer((3, 4) if machine.counts()[1] == 5 else 7)
        return True
    return False


class ImageTest(unittest.TestCase):
    def follow(self, rows, most=100):
        """At each row what's made of the image is the same, and goes on alike."""
        machine = Machine(rows, most=most)
        images = []
        while True:
            image = machine.image()
            self.assertIs(type(image), tuple)
            self.assertTrue(is_plain(image))
            self.assertEqual(machine.image(), image)
            made, like = machine_of(rows, image), machine.like()
            for other in (made, like):
                self.assertIsNot(other, machine)
                self.assertEqual(state(other), state(machine))
                self.assertEqual(other.image(), image)
                self.assertTrue(other == machine and machine == other)
                self.assertFalse(other != machine)
            images.append(image)
            told = forward(machine)
            # What's done to one isn't done to the others.
            self.assertEqual((made.image(), like.image()), (image, image))
            for other in (made, like):
                self.assertEqual(forward(other), told)
                self.assertEqual((state(other), other.image()), (state(machine), machine.image()))
            if not told:
                return images
            machine = (machine, made, like)[len(images) % 3]

    def test_at_each_row(self):
        for text in TEXTS:
            with self.subTest(text):
                images = self.follow(rows_of(term_in(text)))
                # Each row is another step: no two images are the same.
                self.assertEqual(len(set([repr(image) for image in images])), len(images) - (1 if images[-1] == images[-2] else 0))

    def test_programs_by_chance(self):
        for seed in range(150):
            maker = Maker(seed)
            self.follow(rows_of(maker.closed(maker.one_of([6, 8, 9]))), maker.one_of([100, 8]))

    def test_what_an_image_brings_back_has_the_very_same_images_behind(self):
        for text in MANY:
            rows = rows_of(term_in(text))
            machine = Machine(rows)
            while forward(machine):
                other, like = machine_of(rows, machine.image()), machine.like()
                ahead = Machine.like(machine)
                for _ in range(7):
                    self.assertEqual([forward(each) for each in (other, like)], [forward(ahead)] * 2)
                    self.assertEqual(other.image(), ahead.image())
                    self.assertEqual(like.image(), ahead.image())

    def test_an_image_of_an_image(self):
        rows = rows_of(term_in(MANY[1]))
        machine = Machine(rows)
        machine.go(steps=12)
        image = machine.image()
        self.assertEqual(machine_of(rows=rows, image=machine_of(rows, image).image()).image(), image)
        # What was told stays, whatever's done behind.
        before = repr(image)
        machine.run()
        self.assertEqual(repr(image), before)
        self.assertEqual(machine_of(rows, image).run(), machine.outcome())

    def test_things_mentioned_many_times_are_told_once(self):
        # Told each time it's mentioned an image would be of more than 2 ** 60 parts.
        machine = machine_for("call rec f p call f let z p fun y two z p 0")
        machine.go(steps=800)
        image = machine.image()
        self.assertLess(len(repr(image)), 100000)
        self.assertEqual(machine_of(rows_of(term_in("call rec f p call f let z p fun y two z p 0")), image).image(), image)

    def test_what_is_kept_again_and_again(self):
        for text in GROWING:
            for term in (term_in(text), slowed(term_in(text))):
                rows = rows_of(term)
                images = self.follow(rows)
                # Cut elsewhere, and gone on with from images or not, it has the same ones.
                for steps in (2, 3, 7):
                    machine = Machine(rows)
                    while machine.go(steps=steps) == steps:
                        self.assertEqual(machine.image(), images[machine.steps()])
                        machine = machine_of(rows, eval(repr(machine.image()))) if machine.steps() % 2 else machine

    def test_each_thing_that_is_mentioned_is_told_once_in_the_order_of_mentions(self):
        for text in [*TEXTS, *GROWING]:
            machine = machine_for(text)
            while forward(machine):
                image = machine.image()
                numbers = list(mentioned(image))
                firsts = [number for at, number in enumerate(numbers) if number not in numbers[:at]]
                self.assertEqual(firsts, list(range(len(image[-1]))))

    def test_what_is_mentioned_no_more_is_not_told(self):
        rows = rows_of(term_in("let x ask get 1 let x two fun y y 2 let x 0 7"))
        one, other = Machine(rows), Machine(rows)
        for machine, told in ((one, ((1, 2), 3)), (other, (4, 5))):
            machine.run()
            machine.answer(told)
        self.assertFalse(one == other)
        self.assertNotEqual(one.image(), other.image())
        ones, others = one.like(), other.like()
        for machine in (one, other, ones, others):
            self.assertEqual(machine.run(), ("done", 7))
        # Told or not told, and of whichever others were made: nothing but 7 is left.
        self.assertTrue(one == other and ones == others and one == others and others == one)
        self.assertEqual(ones.image(), other.image())
        self.assertTrue(one == other and ones == others and one == others and others == one)

    def test_an_image_is_of_what_was_done_last(self):
        machine = machine_for("plus ask get 1 plus 2 3")
        images = [machine.image()]
        for done in (lambda: machine.go(steps=1), machine.run, lambda: machine.answer(4), lambda: machine.go(steps=1), machine.run):
            done()
            images.append(machine.image())
            self.assertEqual(machine_of(rows_of(term_in("plus ask get 1 plus 2 3")), images[-1]).run(), machine.like().run())
        self.assertEqual(len(set(images)), len(images))
        machine.go()
        self.assertEqual(machine.image(), images[-1])

    def test_how_far_rows_are_alike(self):
        rows = [tuple(f"{number:b}") for number in range(1, 64)] + [()]
        for row in rows:
            for other in rows:
                far = [at for at in range(8) if at <= len(row) and row[:at] == other[:at]][-1]
                self.assertEqual(alike_so_far(row, other), min(far, len(other)), (row, other))

    def test_what_is_kept_within_what_is_kept_is_told_flat(self):
        text = "call rec f n if n deep call f less n 1 x x 1 quick get u ask get plus u 1 ask get 1 80"
        machine = machine_for(text, 200)
        machine.run()
        self.assertEqual(machine.outcome(), ("asks", "get", 81))
        rows = rows_of(term_in(text))
        other = machine_of(rows, machine.image())
        self.assertEqual(other, machine)
        for each in (other, machine):
            each.answer(50)
            self.assertEqual(each.run(), ("done", 50))
        self.assertEqual(other.image(), machine.image())


class EqualTest(unittest.TestCase):
    def test_unlike_ones(self):
        rows = rows_of(term_in("plus ask get 1 2"))
        machine = Machine(rows)
        self.assertTrue(machine == Machine(rows))
        self.assertFalse(machine != Machine(rows))
        self.unlike(machine, Machine(rows_of(term_in("plus ask get 1 3"))))
        self.unlike(machine, Machine(rows, most=99))
        other = Machine(rows)
        other.go(steps=1)
        self.unlike(machine, other)
        machine.go(steps=1)
        self.assertTrue(machine == other)
        machine.run()
        other.run()
        self.assertTrue(machine == other)
        machine.answer(3)
        self.unlike(machine, other)
        other.answer(4)
        self.unlike(machine, other)

    def test_other_outcomes(self):
        rows = rows_of(term_in("call 1 2"))
        machine, other = Machine(rows), Machine(rows)
        machine.go(steps=2)
        other.go(steps=3)
        self.assertEqual(machine.steps(), other.steps())
        self.unlike(machine, other)

    def test_things_of_other_classes(self):
        machine = machine_for("7")
        for thing in (None, 7, "7", (), [], machine.image(), rows_of(term_in("7")), Machine, Exception()):
            self.assertIs(machine == thing, False)
            self.assertIs(thing == machine, False)
            self.assertIs(machine != thing, True)
            self.assertIs(thing != machine, True)

    def unlike(self, machine, other):
        for left, right in ((machine, other), (other, machine)):
            self.assertIs(left == right, False)
            self.assertIs(left != right, True)


if __name__ == "__main__":
    unittest.main()
