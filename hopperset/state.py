"""The state of a weigher: its hoppers, its queue and its balance."""


class Hopper:
    """One hopper. It is empty when its weight is 0; its age is 0 then, too."""

    def __init__(self, weight, age):
        self.weight = weight
        self.age = age

    def is_empty(self):
        return self.weight == 0

    def load(self, weight):
        self.weight = weight
        self.age = 0

    def unload(self):
        self.load(0)


class Weigher:
    """A weigher. Sets of hoppers are masks: hopper i is bit i."""

    def __init__(self, hopper_count, target, max_age):
        self.hoppers = [Hopper(0, 0) for number in range(hopper_count)]
        self.target = target
        self.max_age = max_age
        self.queue = []
        self.received = 0
        self.packed = 0
        self.bag_count = 0

    def duplicate(self):
        """Give a weigher in the same state that shares nothing with this one."""
        twin = Weigher(len(self.hoppers), self.target, self.max_age)
        twin.hoppers = [Hopper(hopper.weight, hopper.age) for hopper in self.hoppers]
        twin.queue = list(self.queue)
        twin.received = self.received
        twin.packed = self.packed
        twin.bag_count = self.bag_count
        return twin

    def first_empty(self):
        """Give the empty hopper with the smallest number, or None."""
        for hopper in self.hoppers:
            if hopper.is_empty():
                return hopper
        return None

    def arrive(self, weight):
        """Take in one portion. An empty hopper gets it even past a queue that waits."""
        self.received += weight
        hopper = self.first_empty()
        if hopper is None:
            self.queue.append(weight)
        else:
            hopper.load(weight)

    def queue_length_after(self, portion_count):
        """Tell how long the queue would be after so many more portions."""
        empty_count = len([hopper for hopper in self.hoppers if hopper.is_empty()])
        return len(self.queue) + max(0, portion_count - empty_count)

    def is_due(self, hopper):
        return self.max_age > 0 and not hopper.is_empty() and hopper.age >= self.max_age

    def due_numbers(self):
        """Give the numbers of the due hoppers, in increasing order."""
        return [number for number, hopper in enumerate(self.hoppers) if self.is_due(hopper)]

    def set_limit(self):
        """Tell how many sets there are: the masks are the numbers below."""
        return 1 << len(self.hoppers)

    def weight_in(self, mask):
        """Tell the weight of a set."""
        return sum([hopper.weight for number, hopper in enumerate(self.hoppers) if (mask >> number) & 1])

    def fill_from(self, mask):
        """Fill a bag from a set that can fill one."""
        self.packed += self.weight_in(mask)
        self.bag_count += 1
        for number, hopper in enumerate(self.hoppers):
            if (mask >> number) & 1:
                hopper.unload()
                self.refill(hopper)
            elif not hopper.is_empty():
                hopper.age += 1

    def refill(self, hopper):
        """Load the first portion of the queue, if there is one."""
        if len(self.queue) > 0:
            hopper.load(self.queue.pop(0))

    def throw_out(self, hopper):
        """Empty a hopper without a bag. The queue isn't used, so the hopper stays empty."""
        self.received -= hopper.weight
        hopper.unload()
