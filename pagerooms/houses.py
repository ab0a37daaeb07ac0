"""Houses: tasks that share frames of several colours, each with just its working pages in them."""

from pagerooms.colours import take
from pagerooms.errors import NoColour, NoPage, NoRoom, NoTask, NoWindow, NoWord
from pagerooms.memories import Store
from pagerooms.working import Window


class Task:
    """The words of a task, the pages of it that work, and the frames of those that are held."""

    def __init__(self, number, pages, words, window):
        self.number = number
        self.store = Store(pages, words)
        self.window = Window(window)
        self.seats = {}
        # The number of its last request among those of the house; 0 stands ahead of all.
        self.heard = 0

    def seat(self, page, frame):
        """Bring a page into a frame."""
        self.seats[page] = frame
        self.store.load(page)

    def drop(self, page):
        """Take a held page out of its frame."""
        del self.seats[page]
        self.store.unload(page)


class House:
    """The tasks and the frames that they share."""

    def __init__(self, tasks, frames, *, colours=1):
        check_house(tasks, frames, colours)
        self.tasks = [Task(number, pages, words, window) for number, (pages, words, window) in enumerate(tasks)]
        self.size = frames
        self.colours = colours
        self.asked = 0

    def read(self, task, page, word):
        """Tell (worth, word, frame): what a word is worth, how its page was found, and where it is."""
        how, frame = self.serve(task, page, word)
        return (self.tasks[task].store.tell(page, word), how, frame)

    def write(self, task, page, word, worth):
        """Give a word a worth; tell (worth, word, frame)."""
        how, frame = self.serve(task, page, word)
        self.tasks[task].store.put(page, word, worth)
        return (worth, how, frame)

    def frames(self):
        """Tell for each frame (task, page), or None of a free one."""
        told = [None] * self.size
        for task in self.tasks:
            for page in task.seats:
                told[task.seats[page]] = (task.number, page)
        return told

    def shares(self, task):
        """Tell how many frames of each colour a task has."""
        self.check_task(task)
        return count_colours(list(self.tasks[task].seats.values()), self.colours)

    def written(self):
        """Tell how many times a page was written back."""
        return sum([task.store.backs for task in self.tasks])

    def check_task(self, number):
        """Refuse a task that there is not."""
        if not 0 <= number < len(self.tasks):
            raise NoTask(number)

    def serve(self, number, page, word):
        """Take a request, so that its page is held behind it; tell (word, frame)."""
        # The refusals stand ahead of the first change: what is refused is no request.
        self.check_task(number)
        task = self.tasks[number]
        task.store.check(page, word)
        self.asked += 1
        task.heard = self.asked
        worked, gone = task.window.ask(page)
        for old in gone:
            # A task that was put off holds none of the pages that went on working.
            if old in task.seats:
                task.drop(old)
        how = "hit"
        if page not in task.seats:
            how = "back" if worked else "own"
            self.bring(task, page)
        return (how, task.seats[page])

    def bring(self, task, page):
        """Bring a page into a free frame of the colour that keeps the task's shares even."""
        if not self.free_frames():
            self.put_off_one(task)
        free = self.free_frames()
        colour = take(self.shares(task.number), count_colours(free, self.colours), 1)[0]
        task.seat(page, min([frame for frame in free if frame % self.colours == colour]))

    def free_frames(self):
        """Tell the numbers of the free frames."""
        return [frame for frame, holder in enumerate(self.frames()) if holder is None]

    def put_off_one(self, task):
        """Take all frames from the task that asked longest ago, of the others that hold pages."""
        # There is one: this task's other working pages are fewer than the frames.
        others = [other for other in self.tasks if other.seats and other.number != task.number]
        longest = min(others, key=lambda other: other.heard)
        for page in list(longest.seats):
            longest.drop(page)


def check_house(tasks, frames, colours):
    """Refuse tasks, colours and frames of which no house is made."""
    if not tasks:
        raise NoTask(None)
    for number, (pages, words, window) in enumerate(tasks):
        if pages < 1:
            raise NoPage(number)
        if words < 1:
            raise NoWord(number)
        if window < 1:
            raise NoWindow(number)
    if colours < 1:
        raise NoColour(colours)
    if frames < max([window for pages, words, window in tasks]):
        raise NoRoom(frames)


def count_colours(frames, colours):
    """Tell how many of some frames there are of each colour."""
    told = [0] * colours
    for frame in frames:
        told[frame % colours] += 1
    return told
